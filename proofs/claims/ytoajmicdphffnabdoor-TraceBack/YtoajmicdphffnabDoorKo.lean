/- Bytes read as a trace, by the document. -/
import Derived.Test.YtoajmicdphffnabDoorKz
import Derived.Test.YtoajmicdphffnabDoorKk
namespace Go.Proofs.YtoajmicdphffnabDoor
open Go Go.RowKit
set_option linter.unusedVariables false
set_option maxHeartbeats 2000000
set_option maxRecDepth 20000

theorem unpack_bad1 (l : List UInt8) (h : l.length < 8 ∨ l.take 4 ≠ [86, 84, 82, 49]) : unpackR l = ([], 91, 0) := by unfold unpackR; rw [if_pos h]
end Go.Proofs.YtoajmicdphffnabDoor
