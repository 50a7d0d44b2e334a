/- The listed variable: what it holds. -/
import Derived.Test.YtdfjfacilbahkabDoorRows
import Derived.Test.YtdfjfacilbahkabDoorQb
import Derived.LaidLaws
import Derived.LaidHandle
import Derived.RowKitTokens
namespace Go.Proofs.YtdfjfacilbahkabDoor
open Go Go.RowKit

theorem hdlG : Tryd.prog.globalNamed "errors.errorType" = some 0 := by kernel_rfl
theorem hdlT : (Tryd.prog.cutTypes.find? (·.1 == "internal/reflectlite.rtype")).map (·.2) = some 69 := by kernel_rfl
theorem hdlRow : ((List.range Tryd.prog.types.size).filter fun t => Tryd.prog.rowNamed t [101, 114, 114, 111, 114]) = [39] := by kernel_rfl
/-- The variable's one cell. -/
theorem handle_of_laid {W : World} (h : laidMetH Tryd.prog [("errors.errorType", Rows.laid_errors_errorType)] W) : Hid (Tq W) := by
  have h' : laidMet Tryd.prog [] W ∧ handlesMet Tryd.prog [("errors.errorType", Rows.laid_errors_errorType)] W := h
  obtain ⟨name, u, ty, e1, e2, e3, e4, e5⟩ := h'.2 _ (List.mem_singleton.2 rfl)
  have en : name = [101, 114, 114, 111, 114] := (Option.some.inj e1).symm
  subst en
  obtain rfl := Option.some.inj (hdlT.symm.trans e2)
  have hm : ty ∈ (List.range Tryd.prog.types.size).filter fun t => Tryd.prog.rowNamed t [101, 114, 114, 111, 114] := List.mem_filter.2 ⟨List.mem_range.2 e3, e4⟩
  rw [hdlRow] at hm
  obtain rfl := List.mem_singleton.1 hm
  have hh : typeHandle Tryd.prog 39 = .pointer (some ⟨1, 39, none⟩) := by kernel_rfl
  rw [hh] at e5
  show Tq W
  unfold Tq
  simpa using World.var?_cell hdlG e5 0
/-- A world in which the listed variable stands. -/
def putCells (cs : List Value) : Obj → Obj
  | .cells _ t frozen => .cells cs.toArray t frozen
  | o => o
def laidWorld (P : Program) (os : Os) : World :=
  { World.holding P os ⟨#[], #[], []⟩ with
    heap := (World.holding P os ⟨#[], #[], []⟩).heap.modify 0 (putCells [.iface 69 (.agg #[.pointer (some ⟨1, 39, none⟩)])]) }
end Go.Proofs.YtdfjfacilbahkabDoor
