/- A record's head, by the document. -/
import Derived.Test.YtoajmicdphffnabDoorKe
import Derived.Test.YtoajmicdphffnabDoorXp
namespace Go.Proofs.YtoajmicdphffnabDoor
open Go Go.RowKit
set_option linter.unusedVariables false
set_option maxHeartbeats 1000000
set_option maxRecDepth 20000

end Go.Proofs.YtoajmicdphffnabDoor
