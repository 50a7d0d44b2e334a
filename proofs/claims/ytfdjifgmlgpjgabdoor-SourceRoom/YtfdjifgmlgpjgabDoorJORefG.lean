/- The document's answer: a number in so many digits, what a digit says. -/
import Derived.Test.YtfdjifgmlgpjgabDoorJORefE
import Derived.Test.YtfdjifgmlgpjgabDoorJHex
import Derived.OwnWalk
namespace Go.Proofs.YtfdjifgmlgpjgabDoor
open Go.RowKit
set_option linter.unusedVariables false
set_option maxHeartbeats 1000000
set_option maxRecDepth 20000

def valI (c : Int) : Int := match digV c with
  | none => -1
  | some v => v
theorem rows_set {cur : Array Value} {j : Nat} {u : Value} {D k : Nat} {f : Nat → Value} (hk : k = j + 1) (hj : j < cur.size) (h : ∀ i, k ≤ i → i < D → cur[i]? = some (f i)) (hu : u = f j) : ∀ i, j ≤ i → i < D → (cur.setIfInBounds j u)[i]? = some (f i) := fun i h1 h2 => by
  by_cases e : i = j
  · subst e; rw [hu]; simp [hj]
  · rw [Array.getElem?_setIfInBounds_ne (by omega)]; exact h i (by omega) h2

end Go.Proofs.YtfdjifgmlgpjgabDoor
/- The document's answer: Encode, Decode and Print, whole. -/
namespace Go.Proofs.YtfdjifgmlgpjgabDoor
open Go.RowKit
set_option linter.unusedVariables false
set_option maxHeartbeats 1000000
set_option maxRecDepth 20000

theorem mayB_no {n : Nat} {A : Int} (h : ¬ may n A) : mayB n A = false := by
  rcases e : mayB n A with _ | _
  · rfl
  · exact absurd ((mayB_iff n A).1 e) h
end Go.Proofs.YtfdjifgmlgpjgabDoor
