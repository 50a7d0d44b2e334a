/- code.Parse, walked: over what its callees answer. -/
import Derived.Test.YtkpfhnogpcigaaaDoorRJOHolds
import Derived.Test.YtkpfhnogpcigaaaDoorRJOCut
import Derived.Test.YtkpfhnogpcigaaaDoorRJNum
namespace Go.Proofs.YtkpfhnogpcigaaaDoorR
open Go.RowKit
set_option linter.unusedVariables false
set_option maxHeartbeats 2000000
set_option maxRecDepth 20000

/-- A block of the call's own: its cells, and that they may be written. -/
structure Mine (v : World) (a : Nat) (cs : Array Value) : Prop where
  cells : Holds v a cs
  free : ∀ j, v.frozen? ⟨a, j, none⟩ = false
  size : a < v.heap.size
theorem mine_alloc (w : World) (cs : Array Value) (t : TypeId) : Mine (w.alloc (.cells cs t)) w.heap.size cs :=
  ⟨fun j _ => World.cell?_alloc_new .., fun j => by simp, by simp⟩
theorem mine_alloc1 (w : World) (o : Obj) (cs : Array Value) (t : TypeId) : Mine ((w.alloc o).alloc (.cells cs t)) (w.heap.size + 1) cs := by
  have := mine_alloc (w.alloc o) cs t
  rw [show (w.alloc o).heap.size = w.heap.size + 1 from by simp] at this
  exact this
theorem Mine.mono {w v : World} {a : Nat} {cs : Array Value} (h : Mine w a cs) (hb : Below w.heap.size w v) : Mine v a cs :=
  ⟨h.cells.mono hb, fun j => (hb.frozen (p := ⟨a, j, none⟩) h.size).trans (h.free j), Nat.lt_of_lt_of_le h.size hb.size⟩
theorem mine_new {w v : World} {cs : Array Value} {t : TypeId} (hb : Below (w.alloc (.cells cs t)).heap.size (w.alloc (.cells cs t)) v) : Mine v w.heap.size cs := (mine_alloc w cs t).mono hb

theorem Mine.other {v : World} {a : Nat} {cs : Array Value} (h : Mine v a cs) {g j : Nat} {u : Value} (hne : a ≠ g) : Mine (v.setCell ⟨g, j, none⟩ u) a cs :=
  ⟨fun i hi => (World.cell?_setCell_other v ⟨g, j, none⟩ ⟨a, i, none⟩ u (by intro e; injection e with e1 e2; exact hne e1.symm)).trans (h.cells i hi), fun i => by rw [World.frozen?_setCell]; exact h.free i, by simpa using h.size⟩
theorem Mine.set1 {v : World} {a : Nat} {x y u : Value} (h : Mine v a #[x, y]) : Mine (v.setCell ⟨a, 1, none⟩ u) a #[x, u] := by
  refine ⟨fun i hi => ?_, fun i => by rw [World.frozen?_setCell]; exact h.free i, by simpa using h.size⟩
  have : i = 0 ∨ i = 1 := by simp at hi; omega
  rcases this with rfl | rfl
  · exact (World.cell?_setCell_other v ⟨a, 1, none⟩ ⟨a, 0, none⟩ u (by intro e; injection e with e1 e2; omega)).trans (h.cells 0 (by simp))
  · exact World.cell?_setCell_same v ⟨a, 1, none⟩ u (h.cells 1 (by simp))

def retI (X : ByteArray) (A : Int) (e : Int) : Ending := .returned (.tuple #[.agg #[.string X, .int .i64 A], .int .i64 e])

end Go.Proofs.YtkpfhnogpcigaaaDoorR
