/- The document's own: the sum, numbers as bytes and back. -/
import Derived.Test.YtehnhjdjjalifaaDoorD1
import Derived.Test.YtehnhjdjjalifaaDoorLc
import Derived.Test.YtehnhjdjjalifaaDoorX0b
import Derived.Laws.Bits64
import Derived.BigRegion
namespace Go.Proofs.YtehnhjdjjalifaaDoor
open Go Go.RowKit
set_option linter.unusedVariables false
set_option maxHeartbeats 1000000
set_option maxRecDepth 20000

theorem sumH_take (h : Nat) (l : List UInt8) (k : Nat) (hk : k < l.length) : sumH h (l.take (k + 1)) = stpH (sumH h (l.take k)) (l.getD k 0) := by
  have e : l[k]? = some (l.getD k 0) := by rw [List.getD_eq_getElem?_getD, List.getElem?_eq_getElem hk]; rfl
  rw [List.take_add_one, e]
  unfold sumH
  rw [Option.toList_some, List.foldl_append, List.foldl_cons, List.foldl_nil]
end Go.Proofs.YtehnhjdjjalifaaDoor
