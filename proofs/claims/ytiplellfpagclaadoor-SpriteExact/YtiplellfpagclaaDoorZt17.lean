/- The listed table of layer 17: what it holds. -/
import Derived.Test.YtiplellfpagclaaDoorRows
import Derived.Test.YtiplellfpagclaaDoorE0
import Derived.Stop.LaidErr
import Derived.Shelf.Vars
namespace Go.Proofs.YtiplellfpagclaaDoor
open Go Go.RowKit
set_option linter.unusedVariables false

def theLaid13 : List (String × DataW Unit) := [("vesper/sprite.pictures", Rows.laid_vesper_sprite_pictures)]
theorem rby : Reads Tryd.prog 5 cell1 := reads_int (k := .u8) (by kernel_rfl)
theorem rpic : Reads Tryd.prog 22 (parts cell1) := reads_array (n := 5) (by kernel_rfl) (by kernel_rfl) rby
theorem rpics : Reads Tryd.prog 40 (parts (parts cell1)) := reads_array (n := 16) (by kernel_rfl) (by kernel_rfl) rpic
def numU8 (n : Nat) : Value := .int .u8 (n : Int)
theorem tabs_of {W : World} (hL : laidMet Tryd.prog theLaid13 W) (hsh : W.ShapedOpen Tryd.prog) : Tg W := by
  obtain ⟨ps, h, _⟩ := hL
  have g1 : Tryd.prog.globalNamed "vesper/sprite.pictures" = some 0 := by kernel_rfl
  have v1 := var_of_laid g1 (t := 40) (by kernel_rfl) rpics h (d := Rows.laid_vesper_sprite_pictures) (by simp [theLaid13])
  have e1 : (parts (parts cell1) Rows.laid_vesper_sprite_pictures).toArray = (picL.map numU8).toArray := by kernel_rfl
  rw [e1] at v1
  have hc : ∀ i : Nat, i < 80 → W.cell? ⟨0, i, none⟩ = some (.int .u8 (picL.getD i 0 : Nat)) := fun i hi => by
    refine (World.var?_cell g1 v1 i).trans ?_
    have hi2 : i < picL.length := hi
    rw [List.getElem?_toArray, List.getElem?_map, List.getElem?_eq_getElem hi2]
    simp [numU8, List.getD, hi2]
  exact ⟨hc, World.block_lt_of_cell? W ⟨0, 0, none⟩ (hc 0 (by decide))⟩
/-- A world in which the listed table stands. -/
def putCells (cs : List Value) : Obj → Obj
  | .cells _ t frozen => .cells cs.toArray t frozen
  | o => o
def laidWorld (P : Program) (os : Os) : World :=
  { World.holding P os ⟨#[], #[], []⟩ with
    heap := (World.holding P os ⟨#[], #[], []⟩).heap.modify 0 (putCells (picL.map numU8)) }
end Go.Proofs.YtiplellfpagclaaDoor
