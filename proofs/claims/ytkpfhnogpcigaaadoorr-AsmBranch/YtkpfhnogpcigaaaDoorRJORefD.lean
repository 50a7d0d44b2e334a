/- The document's answer: Find, Bus, which operands may be. -/
import Derived.Test.YtkpfhnogpcigaaaDoorRJORefC
import Derived.Test.YtkpfhnogpcigaaaDoorRJOThere
namespace Go.Proofs.YtkpfhnogpcigaaaDoorR
open Go.RowKit
set_option linter.unusedVariables false
set_option maxHeartbeats 1000000
set_option maxRecDepth 20000

theorem held_first (n : Nat) (h : n < 256) : bs n = n → (fm n = 2 → held n 2 = if n / 16 = 0 then 1 else 0) ∧ (fm n = 3 → held n 3 = 1) := by revert n; decide +kernel
end Go.Proofs.YtkpfhnogpcigaaaDoorR
