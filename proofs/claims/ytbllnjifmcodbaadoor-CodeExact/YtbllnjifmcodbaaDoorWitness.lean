/- A world in which the program's tables hold what their initialisers lay: for the witness that a row asks. -/
import Derived.Test.YtbllnjifmcodbaaDoorData
namespace Go.Proofs.YtbllnjifmcodbaaDoor
open Go

def putCells (cs : List Value) : Obj → Obj
  | .cells _ t frozen => .cells cs.toArray t frozen
  | o => o
def laidWorld (P : Program) (os : Os) : World :=
  { World.holding P os ⟨#[], #[], []⟩ with heap := (((((((((World.holding P os ⟨#[], #[], []⟩).heap.modify 0 (putCells (rowNmL.map asStr))).modify 1 (putCells (rowFmL.map asU8))).modify 2 (putCells (sprL.map asU8))).modify 3 (putCells (splNmL.map asStr))).modify 4 (putCells (splFmL.map asU8))).modify 5 (putCells (layL.map asInt))).modify 6 (putCells (rowUsL.map asU8))).modify 7 (putCells (splUsL.map asU8))).modify 8 (putCells (useL.flatMap asUse)) }
end Go.Proofs.YtbllnjifmcodbaaDoor
