/- Two lists of records that grow, and boxes beside them. -/
import Derived.Test.YtoajmicdphffnabDoorKd
namespace Go.Proofs.YtoajmicdphffnabDoor
open Go Go.RowKit
set_option linter.unusedVariables false
set_option maxHeartbeats 1000000
set_option maxRecDepth 20000

/-- Two lists that grow, boxes, and the script that they come from. -/
structure Ct (w : World) (va vb : Value) (A Bl : List Rc) (bs : List (Nat × Array Value × TypeId)) (y : World) : Prop where
  fm : Fm w bs y
  oa : OwnR w.heap.size y va A
  ob : OwnR w.heap.size y vb Bl
  ap : ∀ g, va.ownBlock = some g → vb.ownBlock ≠ some g
  na : ∀ (i b : Nat) cs t, bs[i]? = some (b, cs, t) → va.ownBlock ≠ some b ∧ vb.ownBlock ≠ some b
theorem OwnR.keepB {B : Nat} {x y : World} {v : Value} {l : List Rc} (h : OwnR B x v l) (hF : ∀ g, v.ownBlock = some g → y.heap[g]? = x.heap[g]?) : OwnR B y v l := by
  refine ⟨h.1, ?_⟩
  rcases h.2 with h0 | ⟨g, cap, cur, hv, hb, hg, hr⟩
  · exact .inl h0
  · exact .inr ⟨g, cap, cur, hv, hb, (hF g (by rw [hv]; rfl)).trans hg, hr⟩
theorem Ct.below {w y z : World} {va vb : Value} {A Bl : List Rc} {bs : List (Nat × Array Value × TypeId)} (h : Ct w va vb A Bl bs y) (hb : Below y.heap.size y z) : Ct w va vb A Bl bs z := ⟨h.fm.below hb, h.oa.below hb, h.ob.below hb, h.ap, h.na⟩
theorem Ct.new {w y : World} {va vb : Value} {A Bl : List Rc} {bs : List (Nat × Array Value × TypeId)} (h : Ct w va vb A Bl bs y) (cs : Array Value) (t : TypeId) : Ct w va vb A Bl (bs ++ [(y.heap.size, cs, t)]) (y.alloc (.cells cs t)) := by
  refine ⟨h.fm.new cs t, h.oa.alloc _, h.ob.alloc _, h.ap, fun i b cs' t' e => ?_⟩
  rcases Nat.lt_or_ge i bs.length with hi | hi
  · rw [List.getElem?_append_left hi] at e
    exact h.na i b cs' t' e
  · rw [List.getElem?_append_right hi] at e
    have hb : b = y.heap.size := by
      have := List.mem_of_getElem? e
      simp at this
      exact this.1
    subst hb
    refine ⟨fun e1 => ?_, fun e1 => ?_⟩
    · have := World.ownsRow.lt h.oa _ e1; omega
    · have := World.ownsRow.lt h.ob _ e1; omega
theorem Ct.put {w y y' : World} {va vb : Value} {A Bl : List Rc} {bs : List (Nat × Array Value × TypeId)} (h : Ct w va vb A Bl bs y) (i b : Nat) (cs cs' : Array Value) (t : TypeId) (hi : bs[i]? = some (b, cs, t)) (k : y'.heap[b]? = some (.cells cs' t (0, 0)) ∧ (∀ B, B ≤ b → Below B y y') ∧ ∀ q, q ≠ b → y'.heap[q]? = y.heap[q]?) : Ct w va vb A Bl (bs.set i (b, cs', t)) y' := by
  refine ⟨h.fm.put i b cs cs' t hi k, h.oa.keepB fun g e => k.2.2 g fun e1 => (h.na i b cs t hi).1 (e1 ▸ e), h.ob.keepB fun g e => k.2.2 g fun e1 => (h.na i b cs t hi).2 (e1 ▸ e), h.ap, fun j b' cs1 t1 e => ?_⟩
  by_cases hj : i = j
  · subst hj
    have hl : i < bs.length := (List.getElem?_eq_some_iff.1 hi).1
    rw [List.getElem?_set] at e
    simp [hl] at e
    obtain ⟨rfl, _, _⟩ := e
    exact h.na i b cs t hi
  · rw [List.getElem?_set_ne hj] at e
    exact h.na j b' cs1 t1 e
theorem Ct.setCell {w y : World} {va vb : Value} {A Bl : List Rc} {bs : List (Nat × Array Value × TypeId)} (h : Ct w va vb A Bl bs y) (i b : Nat) (cs cs' : Array Value) (t : TypeId) (hi : bs[i]? = some (b, cs, t)) (j : Nat) (v : Value) (hv : cs.setIfInBounds j v = cs') : Ct w va vb A Bl (bs.set i (b, cs', t)) (y.setCell ⟨b, j, none⟩ v) := by
  refine h.put i b cs cs' t hi ⟨?_, fun B hB => (Below.refl B y).setCell (p := ⟨b, j, none⟩) hB v, fun q hq => heap_setCell_other y ⟨b, j, none⟩ q v hq⟩
  have := heap_setCell_same y b j cs t v (h.fm.get i b cs t hi)
  rw [hv] at this
  exact this
theorem Ct.pre {w y : World} {va vb : Value} {A Bl : List Rc} {bs bs' : List (Nat × Array Value × TypeId)} (h : Ct w va vb A Bl (bs ++ bs') y) : Ct w va vb A Bl bs y :=
  ⟨h.fm.pre, h.oa, h.ob, h.ap, fun i b cs t e => h.na i b cs t (by rw [List.getElem?_append_left (List.getElem?_eq_some_iff.1 e).1]; exact e)⟩
theorem Fm.cu {w y z : World} {bs : List (Nat × Array Value × TypeId)} {F : Nat → Nat → Prop} (h : Fm w bs y) (u : Cu w.heap.size F y z) (hF : ∀ (i b : Nat) cs t, bs[i]? = some (b, cs, t) → ∀ j, ¬ F b j) : Fm w bs z :=
  ⟨fun i b cs t e => (u.blk b (heap_lt (h.get i b cs t e)) (hF i b cs t e)).trans (h.get i b cs t e), h.ge, h.ne, h.low.trans u.low⟩
theorem Ct.appA {w y w' : World} {va vb va' : Value} {A Bl : List Rc} {bs : List (Nat × Array Value × TypeId)} {o : Obj} {s : Rc} (h : Ct w va vb A Bl bs y) (a : App1 w.heap.size va A s va' (y.alloc o) w') : Ct w va' vb (A ++ [s]) Bl bs w' := by
  have h1 := h.below (below1 y o)
  refine ⟨h1.fm.cu a.cu fun i b cs t e j hF => (h.na i b cs t e).1 hF.1, a.own, h1.ob.keepB fun g e => a.cu.blk g (World.ownsRow.lt h1.ob g e).2 fun j hF => h.ap g hF.1 e, fun g e1 e2 => ?_, fun i b cs t e => ⟨fun e1 => ?_, (h.na i b cs t e).2⟩⟩
  · rcases a.new g e1 with e3 | e3
    · exact h.ap g e3 e2
    · have := (World.ownsRow.lt h1.ob g e2).2; omega
  · rcases a.new b e1 with e3 | e3
    · exact (h.na i b cs t e).1 e3
    · have := heap_lt (h1.fm.get i b cs t e); omega
theorem Ct.flip {w y : World} {va vb : Value} {A Bl : List Rc} {bs : List (Nat × Array Value × TypeId)} (h : Ct w va vb A Bl bs y) : Ct w vb va Bl A bs y :=
  ⟨h.fm, h.ob, h.oa, fun g e1 e2 => h.ap g e2 e1, fun i b cs t e => ⟨(h.na i b cs t e).2, (h.na i b cs t e).1⟩⟩
theorem Ct.appB {w y w' : World} {va vb vb' : Value} {A Bl : List Rc} {bs : List (Nat × Array Value × TypeId)} {o : Obj} {s : Rc} (h : Ct w va vb A Bl bs y) (a : App1 w.heap.size vb Bl s vb' (y.alloc o) w') : Ct w va vb' A (Bl ++ [s]) bs w' := (h.flip.appA a).flip
theorem Ct.nil (w : World) : Ct w (.slice none 0 0) (.slice none 0 0) [] [] [] w := ⟨Fm.nil w, OwnR.nil _ _, OwnR.nil _ _, fun g h => by simp [Value.ownBlock] at h, fun i b cs t e => by simp at e⟩
theorem Ct.base {w y1 y : World} {va vb : Value} {A Bl : List Rc} (h : Ct y1 va vb A Bl [] y) (hb : Below w.heap.size w y1) : Ct w va vb A Bl [] y :=
  ⟨⟨fun i b cs t e => by simp at e, fun i b cs t e => by simp at e, fun i j b c1 c2 t1 t2 e => by simp at e, hb.trans (h.fm.low.mono hb.size)⟩, h.oa.weak hb.size, h.ob.weak hb.size, h.ap, fun i b cs t e => by simp at e⟩
end Go.Proofs.YtoajmicdphffnabDoor
