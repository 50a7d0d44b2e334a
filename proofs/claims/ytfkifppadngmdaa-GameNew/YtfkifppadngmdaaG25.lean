/- The program's own: a machine a sixtieth of a second later. -/
import Derived.Test.YtfkifppadngmdaaG24
namespace Go.Proofs.Ytfkifppadngmdaa
open Go Go.RowKit Go.Shelf
set_option linter.unusedVariables false
set_option maxHeartbeats 1000000
set_option maxRecDepth 20000

theorem GO.put {B : Nat} {w y : World} {C : Array Value} {g : Gm} (h : GO B w C g) {b : Nat} (hb : b < B) (hk : ∀ q, q ≠ b → y.heap[q]? = w.heap[q]?) : GO B y C g := h.keep fun q hq => hk q (by omega)
end Go.Proofs.Ytfkifppadngmdaa
