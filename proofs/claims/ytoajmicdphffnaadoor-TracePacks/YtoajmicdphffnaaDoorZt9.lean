/- The listed table: what it holds. -/
import Derived.Test.YtoajmicdphffnaaDoorRows
import Derived.Test.YtoajmicdphffnaaDoorTab
import Derived.Test.YtoajmicdphffnaaDoorGk
import Derived.Stop.LaidErr
import Derived.Shelf.Vars
namespace Go.Proofs.YtoajmicdphffnaaDoor
open Go Go.RowKit

def theLaid : List (String × DataW Unit) := [("vesper/trace.modeWords", Rows.laid_vesper_trace_modeWords)]
abbrev Tabs (w : World) : Prop := Hid (Tp w)
theorem rstr : Reads Tryd.prog 9 cell1 := reads_string (by kernel_rfl)
theorem rmode : Reads Tryd.prog 90 (parts cell1) := reads_array (n := 4) (by kernel_rfl) (by kernel_rfl) rstr
theorem tabs_of {W : World} (hL : laidMet Tryd.prog theLaid W) (_hsh : W.ShapedOpen Tryd.prog) : Tabs W := by
  obtain ⟨ps, h, _⟩ := hL
  have g1 : Tryd.prog.globalNamed "vesper/trace.modeWords" = some 0 := by kernel_rfl
  have v1 := var_of_laid g1 (t := 90) (by kernel_rfl) rmode h (d := Rows.laid_vesper_trace_modeWords) (by simp [theLaid])
  have e1 : (parts cell1 Rows.laid_vesper_trace_modeWords).toArray = moC := by kernel_rfl
  rw [e1] at v1
  exact fun i v hv => (World.var?_cell g1 v1 i).trans hv
/-- A world in which the listed table stands. -/
def putCells (cs : List Value) : Obj → Obj
  | .cells _ t frozen => .cells cs.toArray t frozen
  | o => o
def laidWorld (P : Program) (os : Os) : World :=
  { World.holding P os ⟨#[], #[], []⟩ with
    heap := (World.holding P os ⟨#[], #[], []⟩).heap.modify 0 (putCells (parts cell1 Rows.laid_vesper_trace_modeWords)) }
end Go.Proofs.YtoajmicdphffnaaDoor
