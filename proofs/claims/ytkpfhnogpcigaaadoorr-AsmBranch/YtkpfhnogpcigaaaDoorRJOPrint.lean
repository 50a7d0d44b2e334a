/- code.Print: what it returns of every instruction. -/
import Derived.Test.YtkpfhnogpcigaaaDoorRJOHolds
import Derived.Test.YtkpfhnogpcigaaaDoorRJOSum
import Derived.Test.YtkpfhnogpcigaaaDoorRJHex
namespace Go.Proofs.YtkpfhnogpcigaaaDoorR
open Go.RowKit
set_option linter.unusedVariables false
set_option maxHeartbeats 1000000
set_option maxRecDepth 20000

theorem cat_run (P : Program) (a b : ByteArray) (w : World) (h : a.size + b.size < 1000) : (Op.stringOp .add a b).run P w = .ok (.string (a ++ b)) w := by
  simp [Op.stringOp, go_sem]
  omega
theorem hexOf_size (n d : Int) : (hexOf n d).size ≤ 8 := by
  unfold hexOf
  split
  · rename_i h
    have : (hexS d.toNat n.toNat).size = d.toNat := by
      show (hexL d.toNat n.toNat).toArray.size = _
      simp [hexL_len]
    omega
  · decide

end Go.Proofs.YtkpfhnogpcigaaaDoorR
