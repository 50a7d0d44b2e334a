/- The document's hexadecimal digits. -/
import Derived.Test.YtkpfhnogpcigaaaDoorRJHex
import Derived.Test.YtkpfhnogpcigaaaDoorRJNum
namespace Go.Proofs.YtkpfhnogpcigaaaDoorR
open Go Go.RowKit
set_option linter.unusedVariables false
set_option maxHeartbeats 3000000
set_option maxRecDepth 20000

theorem rint {k : IntKind} {a b : Int} (h : a = b) : Ending.returned (.int k a) = .returned (.int k b) := by rw [h]

end Go.Proofs.YtkpfhnogpcigaaaDoorR
