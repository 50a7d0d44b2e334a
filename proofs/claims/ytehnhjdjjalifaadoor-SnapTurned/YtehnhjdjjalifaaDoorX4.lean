/- The document's own: Save. -/
import Derived.Test.YtehnhjdjjalifaaDoorX3r
import Derived.Deep.Cut
namespace Go.Proofs.YtehnhjdjjalifaaDoor
open Go Go.RowKit
set_option linter.unusedVariables false
set_option maxHeartbeats 4000000
set_option maxRecDepth 100000

theorem flat_len : ∀ r : List Nat, (r.flatMap fun v => putN v 2).length = 2 * r.length
  | [] => rfl
  | v :: r => by
    rw [List.flatMap_cons, List.length_append, putN_len, flat_len r, List.length_cons]
    omega
theorem flat_take (r : List Nat) (k : Nat) (hk : k < r.length) : (r.take (k + 1)).flatMap (fun v => putN v 2) = (r.take k).flatMap (fun v => putN v 2) ++ putN (r.getD k 0) 2 := by
  have e : r[k]? = some (r.getD k 0) := by rw [List.getD_eq_getElem?_getD, List.getElem?_eq_getElem hk]; rfl
  rw [List.take_add_one, e, List.flatMap_append]
  simp
end Go.Proofs.YtehnhjdjjalifaaDoor
