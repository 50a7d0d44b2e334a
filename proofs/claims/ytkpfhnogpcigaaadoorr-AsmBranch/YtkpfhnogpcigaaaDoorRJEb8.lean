/- Rows of bytes as they lie in memory. -/
import Derived.Test.YtkpfhnogpcigaaaDoorRJIe
import Derived.Test.YtkpfhnogpcigaaaDoorRJLw
import Derived.Deep.MidRow
namespace Go.Proofs.YtkpfhnogpcigaaaDoorR
open Go Go.RowKit
set_option linter.unusedVariables false
set_option maxHeartbeats 1000000
set_option maxRecDepth 20000

def cU (b : UInt8) : List Value := [byV b]
theorem kU : KdL (α := UInt8) 33 5 1 1 cU := by
  obtain ⟨i, hi, hz0, hz1, hz2⟩ := info_parts infoB
  exact ⟨Tryd.underlying33, ⟨i, _, hi, hz0, hz1, hz2, rfl⟩, fun _ => rfl, fun x v hv => by simp [cU, byV] at hv; subst hv; rfl, by decide, by decide⟩
theorem rowU (l : List UInt8) : rowL cU l = l.map byV := by
  unfold rowL cU
  induction l with
  | nil => rfl
  | cons b r ih => simp [ih]
def rU (l : List UInt8) : Array Value := (l.map byV).toArray
theorem made_u8 (n : Nat) : madeCells #[.int .u8 0] (n * 1) = rU (List.replicate n 0) := by
  apply Array.ext_getElem?
  intro i
  unfold madeCells rU
  by_cases h : i < n
  · simp [h, byV, Nat.mod_one]
  · simp [h]
theorem rU_set (l : List UInt8) (k : Nat) (b : UInt8) : (rU l).setIfInBounds k (byV b) = rU (l.set k b) := by unfold rU; simp [List.map_set]
end Go.Proofs.YtkpfhnogpcigaaaDoorR
