/- The listed tables of layer 14: what they hold. -/
import Derived.Test.YtkpfhnogpcigaaaDoorRRows
import Derived.Test.YtkpfhnogpcigaaaDoorRJOData
import Derived.Stop.LaidErr
import Derived.Shelf.Vars
namespace Go.Proofs.YtkpfhnogpcigaaaDoorR
open Go Go.RowKit

def theLaid13 : List (String × DataW Unit) := theLaid
theorem tabs_of {W : World} (hL : laidMet Tryd.prog theLaid13 W) (_hsh : W.ShapedOpen Tryd.prog) : Tabs W := by
  obtain ⟨ps, h, _⟩ := hL
  exact tabs_of_vars h (fun x hx => hx)
/-- A world in which the listed tables stand. -/
def putCells (cs : List Value) : Obj → Obj
  | .cells _ t frozen => .cells cs.toArray t frozen
  | o => o
def laidWorld (P : Program) (os : Os) : World :=
  { World.holding P os ⟨#[], #[], []⟩ with
    heap := ((((((World.holding P os ⟨#[], #[], []⟩).heap.modify 1 (putCells (rowNmL.map asStr))).modify 2 (putCells (rowFmL.map asU8))).modify 3 (putCells (sprL.map asU8))).modify 4 (putCells (splNmL.map asStr))).modify 5 (putCells (splFmL.map asU8))).modify 0 (putCells (layL.map asInt)) }
end Go.Proofs.YtkpfhnogpcigaaaDoorR
