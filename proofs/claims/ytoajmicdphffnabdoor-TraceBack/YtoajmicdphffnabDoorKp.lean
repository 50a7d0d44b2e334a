/- Rows of bytes that grow beside a box. -/
import Derived.Test.YtoajmicdphffnabDoorKl
import Derived.Test.YtoajmicdphffnabDoorKr
namespace Go.Proofs.YtoajmicdphffnabDoor
open Go Go.RowKit
set_option linter.unusedVariables false
set_option maxHeartbeats 1000000
set_option maxRecDepth 20000

theorem byV_N (n : Int) (h0 : 0 ≤ n) (h1 : n ≤ 255) : byV (byN n) = .int .u8 n := by unfold byV; rw [byN_nat n h0 h1]
/-- Bytes that are owned, and a record in a box of its own. -/
structure KX (w : World) (v : Value) (l : List UInt8) (b : Nat) (r : Rc) (y : World) : Prop where
  kb : KB w v l y
  bx : Bx y b (rcC r) 45
  ge : w.heap.size ≤ b
theorem KB.apart {w y : World} {v : Value} {l : List UInt8} {b : Nat} {r : Rc} (h : KB w v l y) (hx : Bx y b (rcC r) 45) : some b ≠ v.ownBlock := fun e => by
  rcases h.1.2 with ⟨h0, _⟩ | ⟨g, cap, cur, hv, _, hg, _⟩
  · rw [h0] at e; cases e
  · rw [hv] at e
    have : b = g := by simpa [Value.ownBlock] using e
    subst this
    unfold Bx at hx
    rw [hx] at hg
    cases hg
theorem KX.box {w y : World} {v : Value} {l : List UInt8} (h : KB w v l y) : KX w v l y.heap.size zR (y.alloc (.cells (rcC zR) 45)) := ⟨h.below (below1 _ _), one_bx _ _ _, h.2.size⟩
theorem KX.put {w y y' : World} {v : Value} {l : List UInt8} {b : Nat} {r s : Rc} (h : KX w v l b r y) (k : Bx y' b (rcC s) 45 ∧ (∀ B, B ≤ b → Below B y y') ∧ ∀ q, q ≠ b → y'.heap[q]? = y.heap[q]?) : KX w v l b s y' := by
  refine ⟨⟨⟨h.kb.1.1, ?_⟩, h.kb.2.trans (k.2.1 _ h.ge)⟩, k.1, h.ge⟩
  rcases h.kb.1.2 with h0 | ⟨g, cap, cur, hv, hb, hg, hr⟩
  · exact .inl h0
  · exact .inr ⟨g, cap, cur, hv, hb, (k.2.2 g fun e => h.kb.apart h.bx (by rw [hv]; simp [Value.ownBlock, e])).trans hg, hr⟩
theorem KX.below {w y z : World} {v : Value} {l : List UInt8} {b : Nat} {r : Rc} (h : KX w v l b r y) (hb : Below y.heap.size y z) : KX w v l b r z := ⟨h.kb.below hb, (hb.block b (heap_lt h.bx)).trans h.bx, h.ge⟩
theorem KX.app {w y w' : World} {v v' : Value} {l bs : List UInt8} {b : Nat} {r : Rc} {o : Obj} {news : List Value} {m : Nat} (h : KX w v l b r y) (hn : news = bs.map byV) (hm : bs.length = m) (ho : w'.ownsRow w.heap.size 5 1 v' (l.length + m) (l.map byV ++ news)) (hg : (y.alloc o).grownBy w' v.ownBlock) : KX w v' (l ++ bs) b r w' := by
  subst hn
  subst hm
  have h1 := h.below (below1 y o)
  refine ⟨⟨by rw [List.length_append, List.map_append]; exact ho, Below.grown (h.kb.2.alloc h.kb.2.size o) hg (by have := h.kb.2.size; simp; omega) (fun q hq => ((h.kb.1.alloc o).lt q hq).1)⟩, (hg.block b (heap_lt h1.bx) (h1.kb.apart h1.bx)).trans h1.bx, h.ge⟩
theorem many_byt (x : World) (vs : List Value) : ∀ (j : Nat) (u : Value), vs[j]? = some u → (x.alloc (.cells vs.toArray 5)).cell? ((⟨x.heap.size, 0, none⟩ : Addr).add j) = some u := fun j u hu => by
  rw [Addr.add_lit, Nat.zero_add, cell_heap (alloc_last' x _), List.getElem?_toArray]
  exact hu
/-- Bytes in a block of their own, which nobody else has. -/
theorem KB.make (w y : World) (h : Below w.heap.size w y) (l : List UInt8) (n : Nat) (cs : Array Value) (hl : l.length = n) (hp : 0 < n) (hm : n ≤ 1000000) (hc : cs = (l.map byV).toArray) : KB w (.slice (some ⟨y.heap.size, 0, none⟩) n n) l (y.alloc (.cells cs 5)) := by
  subst hc
  subst hl
  refine ⟨⟨by simp, .inr ⟨y.heap.size, l.length, _, rfl, h.size, alloc_last' y _, Nat.le_refl _, by unfold maxLen; omega, by simp, by simpa using List.take_of_length_le (l := l.map byV) (by simp)⟩⟩, h.alloc h.size _⟩
end Go.Proofs.YtoajmicdphffnabDoor
