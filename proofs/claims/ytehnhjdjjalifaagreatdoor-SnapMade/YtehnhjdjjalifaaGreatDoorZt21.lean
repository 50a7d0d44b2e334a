/- The listed tables of layer 21: what they hold. -/
import Derived.Test.YtehnhjdjjalifaaGreatDoorRows
import Derived.Test.YtehnhjdjjalifaaGreatDoorOData
import Derived.Test.YtehnhjdjjalifaaGreatDoorQ0
import Derived.Stop.LaidErr
import Derived.Shelf.Vars
namespace Go.Proofs.YtehnhjdjjalifaaGreatDoor
open Go Go.RowKit
set_option linter.unusedVariables false
set_option maxRecDepth 100000

def theLaid13 : List (String × DataW Unit) := [("vesper/code.splitRow", Rows.laid_vesper_code_splitRow), ("vesper/code.rowNames", Rows.laid_vesper_code_rowNames), ("vesper/code.splitNames", Rows.laid_vesper_code_splitNames), ("vesper/code.rowForms", Rows.laid_vesper_code_rowForms), ("vesper/code.splitForms", Rows.laid_vesper_code_splitForms), ("vesper/code.layouts", Rows.laid_vesper_code_layouts), ("vesper/pixie.lines", Rows.laid_vesper_pixie_lines)]
theorem rst21 : Reads Tryz.prog 107 cell1 := reads_int (k := .u8) (by kernel_rfl)
theorem rin21 : Reads Tryz.prog 3 cell1 := reads_int (k := .i64) (by kernel_rfl)
theorem rbo21 : Reads Tryz.prog 113 (parts cell1) := reads_struct' [(0, 1), (1, 1), (2, 1)] Tryz.underlying113 (by kernel_rfl) (by decide) (by kernel_rfl) (by
  intro x hx
  simp at hx
  rcases hx with rfl | rfl | rfl
  · exact rst21
  · exact rin21
  · exact rin21)
theorem rbos21 : Reads Tryz.prog 114 (parts (parts cell1)) := reads_array (n := 4) (e := 113) (by kernel_rfl) (by kernel_rfl) rbo21
def linL : List Value := [.int .u8 0, .int .i64 80, .int .i64 207, .int .u8 1, .int .i64 78, .int .i64 79, .int .u8 2, .int .i64 76, .int .i64 79, .int .u8 2, .int .i64 204, .int .i64 207]
theorem tabs_of {W : World} (hL : laidMet Tryz.prog theLaid13 W) (hsh : W.ShapedOpen Tryz.prog) : Tbs W := by
  obtain ⟨ps, h, _⟩ := hL
  refine ⟨tabs_of_vars h (fun x hx => by
    simp only [theLaid, List.mem_cons, List.not_mem_nil, or_false] at hx
    rcases hx with rfl | rfl | rfl | rfl | rfl | rfl <;> simp [theLaid13]), ?_⟩
  have g1 : Tryz.prog.globalNamed "vesper/pixie.lines" = some 0 := by kernel_rfl
  have v1 := var_of_laid g1 (t := 114) (by kernel_rfl) rbos21 h (d := Rows.laid_vesper_pixie_lines) (by simp [theLaid13])
  have e1 : (parts (parts cell1) Rows.laid_vesper_pixie_lines).toArray = linL.toArray := by kernel_rfl
  rw [e1] at v1
  have hc : ∀ (i : Nat) (v : Value), linL[i]? = some v → W.cell? ⟨0, i, none⟩ = some v := fun i v hv => (World.var?_cell g1 v1 i).trans (by rw [List.getElem?_toArray]; exact hv)
  have h0 := hc 0 _ rfl
  exact ⟨h0, hc 1 _ rfl, hc 2 _ rfl, hc 3 _ rfl, hc 4 _ rfl, hc 5 _ rfl, hc 6 _ rfl, hc 7 _ rfl, hc 8 _ rfl, hc 9 _ rfl, hc 10 _ rfl, hc 11 _ rfl, by have := World.block_lt_of_cell? W ⟨0, 0, none⟩ h0; exact Nat.lt_of_le_of_lt (Nat.zero_le _) this⟩
/-- A world in which the listed tables stand. -/
def putCells (cs : List Value) : Obj → Obj
  | .cells _ t frozen => .cells cs.toArray t frozen
  | o => o
def laidWorld (P : Program) (os : Os) : World :=
  { World.holding P os ⟨#[], #[], []⟩ with
    heap := (((((((World.holding P os ⟨#[], #[], []⟩).heap.modify 1 (putCells (rowNmL.map asStr))).modify 2 (putCells (rowFmL.map asU8))).modify 3 (putCells (sprL.map asU8))).modify 4 (putCells (splNmL.map asStr))).modify 5 (putCells (splFmL.map asU8))).modify 6 (putCells (layL.map asInt))).modify 0 (putCells linL) }
end Go.Proofs.YtehnhjdjjalifaaGreatDoor
