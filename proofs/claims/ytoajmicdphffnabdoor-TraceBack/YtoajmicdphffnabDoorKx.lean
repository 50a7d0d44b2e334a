/- The record that begins at a place, with a port and an address of its own. -/
import Derived.Test.YtoajmicdphffnabDoorKn
namespace Go.Proofs.YtoajmicdphffnabDoor
open Go Go.RowKit
set_option linter.unusedVariables false
set_option maxHeartbeats 20000000
set_option maxRecDepth 20000

end Go.Proofs.YtoajmicdphffnabDoor
