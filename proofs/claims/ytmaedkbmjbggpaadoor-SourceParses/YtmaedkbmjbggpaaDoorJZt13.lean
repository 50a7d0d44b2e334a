/- The listed tables of layer 13: what they hold. -/
import Derived.Test.YtmaedkbmjbggpaaDoorRows
import Derived.Test.YtmaedkbmjbggpaaDoorJNe
import Derived.Stop.LaidErr
import Derived.Shelf.Vars
namespace Go.Proofs.YtmaedkbmjbggpaaDoor
open Go Go.RowKit Go.Shelf

def theLaid13 : List (String × DataW Unit) := [("vesper/code.splitRow", Rows.laid_vesper_code_splitRow), ("vesper/code.rowNames", Rows.laid_vesper_code_rowNames), ("vesper/code.splitNames", Rows.laid_vesper_code_splitNames), ("vesper/code.rowForms", Rows.laid_vesper_code_rowForms), ("vesper/code.splitForms", Rows.laid_vesper_code_splitForms), ("vesper/code.layouts", Rows.laid_vesper_code_layouts), ("vesper/source.partWords", Rows.laid_vesper_source_partWords)]
theorem rword : Reads Tryd.prog 96 (parts cell1) := reads_array (n := 4) (by kernel_rfl) (by kernel_rfl) r9
theorem tabs_of {W : World} (hL : laidMet Tryd.prog theLaid13 W) (hsh : W.ShapedOpen Tryd.prog) : Tw W := by
  obtain ⟨ps, h, _⟩ := hL
  have t1 := tabs_of_vars h (fun x hx => List.mem_append_left [("vesper/source.partWords", Rows.laid_vesper_source_partWords)] hx)
  have g1 : Tryd.prog.globalNamed "vesper/source.partWords" = some 0 := by kernel_rfl
  have v1 := var_of_laid g1 (t := 96) (by kernel_rfl) rword h (d := Rows.laid_vesper_source_partWords) (by simp [theLaid13])
  have e1 : (parts cell1 Rows.laid_vesper_source_partWords).toArray = pwL.toArray := by kernel_rfl
  rw [e1] at v1
  refine ⟨t1, fun i v hv => (World.var?_cell g1 v1 i).trans (by simpa using hv), ?_⟩
  exact cell_of_shapedOpen_int hsh (g := 7) (t := 3) (zero := #[.int .i64 0]) (of_decide_eq_true (by kernel_rfl)) (by kernel_rfl) rfl (by kernel_rfl) (by kernel_rfl) Tryd.underlying3
/-- A world in which the listed tables stand. -/
def putCells (cs : List Value) : Obj → Obj
  | .cells _ t frozen => .cells cs.toArray t frozen
  | o => o
def laidWorld (P : Program) (os : Os) : World :=
  { World.holding P os ⟨#[], #[], []⟩ with
    heap := (((((((World.holding P os ⟨#[], #[], []⟩).heap.modify 1 (putCells (rowNmL.map asStr))).modify 2 (putCells (rowFmL.map asU8))).modify 3 (putCells (sprL.map asU8))).modify 4 (putCells (splNmL.map asStr))).modify 5 (putCells (splFmL.map asU8))).modify 6 (putCells (layL.map asInt))).modify 0 (putCells pwL) }
end Go.Proofs.YtmaedkbmjbggpaaDoor
