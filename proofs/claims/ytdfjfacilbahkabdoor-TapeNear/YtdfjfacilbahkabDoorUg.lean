/- Two lists of waves held against each other by the document. -/
import Derived.Test.YtdfjfacilbahkabDoorUf
import Derived.StillTail
namespace Go.Proofs.YtdfjfacilbahkabDoor
open Go Go.RowKit
set_option linter.unusedVariables false
set_option maxHeartbeats 1000000
set_option maxRecDepth 20000

theorem take_step {α : Type} {a b : List α} {j : Nat} {x y : α} (h : a.take j = b.take j) (hx : a[j]? = some x) (hy : b[j]? = some y) (e : x = y) : a.take (j + 1) = b.take (j + 1) := by rw [List.take_add_one, List.take_add_one, h, hx, hy, e]
theorem eqWa (p q : Int × Int) : Eqs Tryd.prog 30 (c2 p).toArray (c2 q).toArray (p == q) := ⟨by kernel_rfl, fun w => by
  obtain ⟨a, b⟩ := p
  obtain ⟨x, y⟩ := q
  unfold c2
  go_simp
  (repeat' split) <;> simp_all⟩
end Go.Proofs.YtdfjfacilbahkabDoor
