/- The document's answer: Encode and Decode. -/
import Derived.Test.YtfdjifgmlgpjgabDoorJORefD
import Derived.Test.YtfdjifgmlgpjgabDoorJOEnc
namespace Go.Proofs.YtfdjifgmlgpjgabDoor
open Go.RowKit
set_option linter.unusedVariables false
set_option maxHeartbeats 1000000
set_option maxRecDepth 20000

theorem undrew {B : Nat} {a w : World} {n : Nat} (h : Below B (a.drewN n) w) : Below B a w := ⟨h.os, h.tape, h.output, h.size, h.block⟩
end Go.Proofs.YtfdjifgmlgpjgabDoor
