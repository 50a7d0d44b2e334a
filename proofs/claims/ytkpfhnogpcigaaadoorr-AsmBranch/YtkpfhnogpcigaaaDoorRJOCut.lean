/- code.cut: a line parted at its first blank. -/
import Derived.Test.YtkpfhnogpcigaaaDoorRJOHolds
namespace Go.Proofs.YtkpfhnogpcigaaaDoorR
open Go.RowKit
set_option linter.unusedVariables false
set_option maxHeartbeats 1000000
set_option maxRecDepth 20000

end Go.Proofs.YtkpfhnogpcigaaaDoorR
