/- Blocks of the call's own, and what they hold while calls are made. -/
import Derived.Test.YtfdjifgmlgpjgaaDoorODec
namespace Go.Proofs.YtfdjifgmlgpjgaaDoor
open Go.RowKit

/-- A block holds these cells. -/
def Holds (v : World) (a : Nat) (cs : Array Value) : Prop := ∀ j, j < cs.size → v.cell? ⟨a, j, none⟩ = cs[j]?
theorem holds_new {w v : World} {cs : Array Value} {t : TypeId} (hb : Below (w.alloc (.cells cs t)).heap.size (w.alloc (.cells cs t)) v) : Holds v w.heap.size cs := fun j _ => own_cell hb j
theorem Holds.mono {w v : World} {a : Nat} {cs : Array Value} (h : Holds w a cs) (hb : Below w.heap.size w v) : Holds v a cs := fun j hj => by
  have hc := h j hj
  rw [Array.getElem?_eq_getElem hj] at hc ⊢
  rw [hb.cell (p := ⟨a, j, none⟩) (own_size hc)]
  exact hc
theorem holds_alloc2 (w : World) (o : Obj) (cs : Array Value) (t : TypeId) : Holds ((w.alloc o).alloc (.cells cs t)) (w.heap.size + 1) cs := fun j _ => by
  simp

theorem tabs_alloc {w : World} (T : Tabs w) (o : Obj) : Tabs (w.alloc o) := T.below ((Below.refl _ _).alloc (Nat.le_refl _) _)

end Go.Proofs.YtfdjifgmlgpjgaaDoor
