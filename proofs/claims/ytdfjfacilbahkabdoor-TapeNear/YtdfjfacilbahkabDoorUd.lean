/- The document's reading of a byte: the walk. -/
import Derived.Test.YtdfjfacilbahkabDoorUc
namespace Go.Proofs.YtdfjfacilbahkabDoor
open Go Go.RowKit
set_option linter.unusedVariables false
set_option maxHeartbeats 2000000
set_option maxRecDepth 20000

theorem pow2_128 : ∀ k, k < 8 → (2 ^ k : Nat) ≤ 128 := by decide
theorem lead_nil {L : List (Int × Int)} {j n : Nat} (hn : L.length = n) (h : ¬ j < n) : leadW (L.drop j) j = (122, j, []) := by
  rw [List.drop_eq_nil_of_le (by omega)]
  rfl
theorem nine_nil {L : List (Int × Int)} {j n k : Nat} {v o w : Int} (hn : L.length = n) (h : ¬ j < n) : nineW (k + 1) (L.drop j) j v o w = (122, j, 0, 0, []) := by
  rw [List.drop_eq_nil_of_le (by omega)]
  rfl
end Go.Proofs.YtdfjfacilbahkabDoor
