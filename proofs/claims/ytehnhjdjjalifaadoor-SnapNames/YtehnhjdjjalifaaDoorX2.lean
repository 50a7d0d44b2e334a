/- The document's own: numbers as bytes, and back. -/
import Derived.Test.YtehnhjdjjalifaaDoorX1
namespace Go.Proofs.YtehnhjdjjalifaaDoor
open Go Go.RowKit
set_option linter.unusedVariables false
set_option maxHeartbeats 1000000
set_option maxRecDepth 20000

theorem num_succ (l : List UInt8) (a m : Nat) (ha : a < l.length) : numB l a (m + 1) = (l.getD a 0).toNat + 256 * numB l (a + 1) m := by
  have e : l.getD a 0 = l[a] := by rw [List.getD_eq_getElem?_getD, List.getElem?_eq_getElem ha]; rfl
  unfold numB
  rw [List.drop_eq_getElem_cons ha, List.take_succ_cons, e]
  rfl
theorem num_lt (l : List UInt8) (a m : Nat) : numB l a m < 256 ^ m := by
  unfold numB
  refine Nat.lt_of_lt_of_le (getN_lt _) (Nat.pow_le_pow_right (by decide) ?_)
  rw [List.length_take]
  omega
theorem putN_snoc : ∀ (j N : Nat), putN N (j + 1) = putN N j ++ [UInt8.ofNat (N / 256 ^ j % 256)]
  | 0, N => by simp [putN]
  | j + 1, N => by
    have h := putN_snoc j (N / 256)
    show UInt8.ofNat (N % 256) :: putN (N / 256) (j + 1) = (UInt8.ofNat (N % 256) :: putN (N / 256) j) ++ _
    rw [h, List.cons_append, Nat.div_div_eq_div_mul, Nat.pow_succ, Nat.mul_comm 256]
end Go.Proofs.YtehnhjdjjalifaaDoor
