/- The document's own: addresses, a font that may be, the byte at an address. -/
import Derived.Test.YtfkifppadngmdaaG7
namespace Go.Proofs.Ytfkifppadngmdaa
open Go Go.RowKit Go.Shelf
set_option linter.unusedVariables false
set_option maxHeartbeats 1000000
set_option maxRecDepth 20000

/-- What 'at' answers. -/
def atV : Option UInt8 → Value
  | some b => .tuple #[byV b, .bool true]
  | none => .tuple #[.int .u8 0, .bool false]
end Go.Proofs.Ytfkifppadngmdaa
