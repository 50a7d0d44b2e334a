/- The document's reading of bytes: the walk. -/
import Derived.Test.YtdfjfacilbahkabDoorUd
namespace Go.Proofs.YtdfjfacilbahkabDoor
open Go Go.RowKit
set_option linter.unusedVariables false
set_option maxHeartbeats 2000000
set_option maxRecDepth 20000

def cB (z : UInt8) : List Value := [.int .u8 (z.toNat : Int)]
theorem infoBy : (Tryd.prog.info? 5).map (fun i => (i.zero, i.size, i.bytes)) = some (some (.int .u8 0), 1, 1) := by kernel_rfl
theorem kByte : KdL 22 5 1 1 cB := by
  obtain ⟨i, hi, e⟩ := Option.map_eq_some_iff.1 infoBy
  injection e with e1 e2
  injection e2 with e2 e3
  exact ⟨Tryd.underlying22, ⟨i, _, hi, e1, e2, e3, rfl⟩, fun _ => rfl, fun x v hv => by simp [cB] at hv; subst hv; rfl, by decide, by decide⟩
theorem bx1 (z : World) (cs : Array Value) (t : TypeId) : Bx (z.alloc (.cells cs t)) z.heap.size cs t := alloc_last' z _
theorem readGo_succ (q : Nat) (L : List (Int × Int)) (j : Nat) (out : List UInt8) : readGo (q + 1) L j out = if (byteL L j).2.1 ≠ 0 then ([], (byteL L j).2.1, ((byteL L j).2.2.1 : Int)) else readGo q (byteL L j).2.2.2 (byteL L j).2.2.1 (out ++ [UInt8.ofNat (byteL L j).1.toNat]) := rfl
end Go.Proofs.YtdfjfacilbahkabDoor
