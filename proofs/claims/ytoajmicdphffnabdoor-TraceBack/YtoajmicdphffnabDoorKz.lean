/- The record that begins at a place, at the next address. The record that begins at a place, by the document. -/
import Derived.Test.YtoajmicdphffnabDoorKn
import Derived.Test.YtoajmicdphffnabDoorKx
namespace Go.Proofs.YtoajmicdphffnabDoor
open Go Go.RowKit
set_option linter.unusedVariables false
set_option maxHeartbeats 20000000
set_option maxRecDepth 20000

end Go.Proofs.YtoajmicdphffnabDoor

namespace Go.Proofs.YtoajmicdphffnabDoor
open Go Go.RowKit
set_option linter.unusedVariables false
set_option maxHeartbeats 20000000
set_option maxRecDepth 20000

end Go.Proofs.YtoajmicdphffnabDoor
