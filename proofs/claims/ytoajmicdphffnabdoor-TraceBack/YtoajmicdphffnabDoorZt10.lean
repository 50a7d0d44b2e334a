/- The listed table: what it holds. -/
import Derived.Test.YtoajmicdphffnabDoorRows
import Derived.Test.YtoajmicdphffnabDoorTab
import Derived.Test.YtoajmicdphffnabDoorGk
import Derived.Test.YtoajmicdphffnabDoorHb
import Derived.Stop.LaidErr
import Derived.Shelf.Vars
namespace Go.Proofs.YtoajmicdphffnabDoor
open Go Go.RowKit Go.Shelf

def theLaid : List (String × DataW Unit) := [("unicode/utf8.acceptRanges", Rows.laid_unicode_utf8_acceptRanges), ("vesper/trace.modeWords", Rows.laid_vesper_trace_modeWords), ("unicode/utf8.first", Rows.laid_unicode_utf8_first)]
abbrev Tabs (w : World) : Prop := Hid (Tp w ∧ Tq w)
theorem rstr : Reads Tryd.prog 9 cell1 := reads_string (by kernel_rfl)
theorem rmode : Reads Tryd.prog 78 (parts cell1) := reads_array (n := 4) (by kernel_rfl) (by kernel_rfl) rstr
theorem tabs_of {W : World} (hL : laidMet Tryd.prog theLaid W) (hsh : W.ShapedOpen Tryd.prog) : Tabs W := by
  obtain ⟨ps, h, _⟩ := hL
  have g1 : Tryd.prog.globalNamed "vesper/trace.modeWords" = some 0 := by kernel_rfl
  have v1 := var_of_laid g1 (t := 78) (by kernel_rfl) rmode h (d := Rows.laid_vesper_trace_modeWords) (by simp [theLaid])
  have e1 : (parts cell1 Rows.laid_vesper_trace_modeWords).toArray = moC := by kernel_rfl
  rw [e1] at v1
  exact ⟨fun i v hv => (World.var?_cell g1 v1 i).trans hv, cell_of_shapedOpen_int hsh (g := 1) (t := 3) (zero := #[.int .i64 0]) (of_decide_eq_true (by kernel_rfl)) (by kernel_rfl) rfl (by kernel_rfl) (by kernel_rfl) Tryd.underlying3⟩
/-- A world in which the listed table stands. -/
def putCells (cs : List Value) : Obj → Obj
  | .cells _ t frozen => .cells cs.toArray t frozen
  | o => o
def laidWorld (P : Program) (os : Os) : World :=
  { World.holding P os ⟨#[], #[], []⟩ with
    heap := (((World.holding P os ⟨#[], #[], []⟩).heap.modify 0 (putCells (parts cell1 Rows.laid_vesper_trace_modeWords))).modify 3 (putCells (parts (parts cell1) Rows.laid_unicode_utf8_acceptRanges))).modify 2 (putCells (parts cell1 Rows.laid_unicode_utf8_first)) }
end Go.Proofs.YtoajmicdphffnabDoor
