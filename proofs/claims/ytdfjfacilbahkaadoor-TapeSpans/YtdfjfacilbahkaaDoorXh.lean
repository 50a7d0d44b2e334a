/- A script cut in two, by the document. -/
import Derived.Test.YtdfjfacilbahkaaDoorXf
namespace Go.Proofs.YtdfjfacilbahkaaDoor
open Go Go.RowKit
set_option linter.unusedVariables false
set_option maxHeartbeats 1000000
set_option maxRecDepth 20000

theorem fillS (s : Sn) : Instr.fill (fun i => some (i * 10, 10)) ((Array.range (1 * 10)).map ((Value.agg (spC ⟨0, ⟨0, false, false, false, false, false, false, false, 0⟩⟩)).cells[· % (Value.agg (spC ⟨0, ⟨0, false, false, false, false, false, false, false, 0⟩⟩)).cells.size]!)) [(0, .agg (spC s))] = some (spC s) := by kernel_rfl
theorem at_bsS {ops : Array Oper} {rest : List Oper} {o : Oper} {a : Act} {w : World} {Q : Exit → Act → World → Prop} (s : Sn) (x : Operand) (hgd : o.guard = none) (ho : o.op = .buildSlice 38 1 #[(0, x)]) (hx : a.eval x = .agg (spC s))
    (h : wpList Tryd.prog ops Q rest (a.put o.dst (.slice (some ⟨w.heap.size, 0, none⟩) 1 1)) (w.alloc (.cells (spC s) 37))) : wpList Tryd.prog ops Q (o :: rest) a w := by
  obtain ⟨i, hi, hz0, hz1, hz2⟩ := info_parts infoS
  refine wpList_buildSlice hgd 38 37 1 #[(0, x)] ho (spC s) i _ Tryd.underlying38 hi hz0 (by rw [hz1]; decide) (by rw [hz1]; decide) ?_ h
  rw [hz1]
  have e : (#[(0, x)].map fun (i, x) => (i, a.eval x)).toList = [(0, .agg (spC s))] := by simp [hx]
  rw [e]
  exact fillS s
/-- Two lists that grow, boxes, and the script that they come from. -/
structure Ct (w : World) (va vb : Value) (A Bl : List Sn) (bs : List (Nat × Array Value × TypeId)) (y : World) : Prop where
  fm : Fm w bs y
  oa : OwnS w.heap.size y va A
  ob : OwnS w.heap.size y vb Bl
  ap : ∀ g, va.ownBlock = some g → vb.ownBlock ≠ some g
  na : ∀ (i b : Nat) cs t, bs[i]? = some (b, cs, t) → va.ownBlock ≠ some b ∧ vb.ownBlock ≠ some b
theorem OwnS.keepB {B : Nat} {x y : World} {v : Value} {l : List Sn} (h : OwnS B x v l) (hF : ∀ g, v.ownBlock = some g → y.heap[g]? = x.heap[g]?) : OwnS B y v l := by
  refine ⟨h.1, ?_⟩
  rcases h.2 with h0 | ⟨g, cap, cur, hv, hb, hg, hr⟩
  · exact .inl h0
  · exact .inr ⟨g, cap, cur, hv, hb, (hF g (by rw [hv]; rfl)).trans hg, hr⟩
theorem Ct.below {w y z : World} {va vb : Value} {A Bl : List Sn} {bs : List (Nat × Array Value × TypeId)} (h : Ct w va vb A Bl bs y) (hb : Below y.heap.size y z) : Ct w va vb A Bl bs z := ⟨h.fm.below hb, h.oa.below hb, h.ob.below hb, h.ap, h.na⟩
theorem Ct.new {w y : World} {va vb : Value} {A Bl : List Sn} {bs : List (Nat × Array Value × TypeId)} (h : Ct w va vb A Bl bs y) (cs : Array Value) (t : TypeId) : Ct w va vb A Bl (bs ++ [(y.heap.size, cs, t)]) (y.alloc (.cells cs t)) := by
  refine ⟨h.fm.new cs t, h.oa.alloc _, h.ob.alloc _, h.ap, fun i b cs' t' e => ?_⟩
  rcases Nat.lt_or_ge i bs.length with hi | hi
  · rw [List.getElem?_append_left hi] at e
    exact h.na i b cs' t' e
  · rw [List.getElem?_append_right hi] at e
    have hb : b = y.heap.size := by
      have := List.mem_of_getElem? e
      simp at this
      exact this.1
    subst hb
    refine ⟨fun e1 => ?_, fun e1 => ?_⟩
    · have := World.ownsRow.lt h.oa _ e1; omega
    · have := World.ownsRow.lt h.ob _ e1; omega
theorem Ct.put {w y y' : World} {va vb : Value} {A Bl : List Sn} {bs : List (Nat × Array Value × TypeId)} (h : Ct w va vb A Bl bs y) (i b : Nat) (cs cs' : Array Value) (t : TypeId) (hi : bs[i]? = some (b, cs, t)) (k : y'.heap[b]? = some (.cells cs' t (0, 0)) ∧ (∀ B, B ≤ b → Below B y y') ∧ ∀ q, q ≠ b → y'.heap[q]? = y.heap[q]?) : Ct w va vb A Bl (bs.set i (b, cs', t)) y' := by
  refine ⟨h.fm.put i b cs cs' t hi k, h.oa.keepB fun g e => k.2.2 g fun e1 => (h.na i b cs t hi).1 (e1 ▸ e), h.ob.keepB fun g e => k.2.2 g fun e1 => (h.na i b cs t hi).2 (e1 ▸ e), h.ap, fun j b' cs1 t1 e => ?_⟩
  by_cases hj : i = j
  · subst hj
    have hl : i < bs.length := (List.getElem?_eq_some_iff.1 hi).1
    rw [List.getElem?_set] at e
    simp [hl] at e
    obtain ⟨rfl, _, _⟩ := e
    exact h.na i b cs t hi
  · rw [List.getElem?_set_ne hj] at e
    exact h.na j b' cs1 t1 e
theorem Ct.setCell {w y : World} {va vb : Value} {A Bl : List Sn} {bs : List (Nat × Array Value × TypeId)} (h : Ct w va vb A Bl bs y) (i b : Nat) (cs cs' : Array Value) (t : TypeId) (hi : bs[i]? = some (b, cs, t)) (j : Nat) (v : Value) (hv : cs.setIfInBounds j v = cs') : Ct w va vb A Bl (bs.set i (b, cs', t)) (y.setCell ⟨b, j, none⟩ v) := by
  refine h.put i b cs cs' t hi ⟨?_, fun B hB => (Below.refl B y).setCell (p := ⟨b, j, none⟩) hB v, fun q hq => heap_setCell_other y ⟨b, j, none⟩ q v hq⟩
  have := heap_setCell_same y b j cs t v (h.fm.get i b cs t hi)
  rw [hv] at this
  exact this
theorem Ct.pre {w y : World} {va vb : Value} {A Bl : List Sn} {bs bs' : List (Nat × Array Value × TypeId)} (h : Ct w va vb A Bl (bs ++ bs') y) : Ct w va vb A Bl bs y :=
  ⟨h.fm.pre, h.oa, h.ob, h.ap, fun i b cs t e => h.na i b cs t (by rw [List.getElem?_append_left (List.getElem?_eq_some_iff.1 e).1]; exact e)⟩
theorem Fm.cu {w y z : World} {bs : List (Nat × Array Value × TypeId)} {F : Nat → Nat → Prop} (h : Fm w bs y) (u : Cu w.heap.size F y z) (hF : ∀ (i b : Nat) cs t, bs[i]? = some (b, cs, t) → ∀ j, ¬ F b j) : Fm w bs z :=
  ⟨fun i b cs t e => (u.blk b (heap_lt (h.get i b cs t e)) (hF i b cs t e)).trans (h.get i b cs t e), h.ge, h.ne, h.low.trans u.low⟩
theorem Ct.appA {w y w' : World} {va vb va' : Value} {A Bl : List Sn} {bs : List (Nat × Array Value × TypeId)} {o : Obj} {s : Sn} (h : Ct w va vb A Bl bs y) (a : App1 w.heap.size va A s va' (y.alloc o) w') : Ct w va' vb (A ++ [s]) Bl bs w' := by
  have h1 := h.below (below1 y o)
  refine ⟨h1.fm.cu a.cu fun i b cs t e j hF => (h.na i b cs t e).1 hF.1, a.own, h1.ob.keepB fun g e => a.cu.blk g (World.ownsRow.lt h1.ob g e).2 fun j hF => h.ap g hF.1 e, fun g e1 e2 => ?_, fun i b cs t e => ⟨fun e1 => ?_, (h.na i b cs t e).2⟩⟩
  · rcases a.new g e1 with e3 | e3
    · exact h.ap g e3 e2
    · have := (World.ownsRow.lt h1.ob g e2).2; omega
  · rcases a.new b e1 with e3 | e3
    · exact (h.na i b cs t e).1 e3
    · have := heap_lt (h1.fm.get i b cs t e); omega
theorem Ct.flip {w y : World} {va vb : Value} {A Bl : List Sn} {bs : List (Nat × Array Value × TypeId)} (h : Ct w va vb A Bl bs y) : Ct w vb va Bl A bs y :=
  ⟨h.fm, h.ob, h.oa, fun g e1 e2 => h.ap g e2 e1, fun i b cs t e => ⟨(h.na i b cs t e).2, (h.na i b cs t e).1⟩⟩
theorem Ct.appB {w y w' : World} {va vb vb' : Value} {A Bl : List Sn} {bs : List (Nat × Array Value × TypeId)} {o : Obj} {s : Sn} (h : Ct w va vb A Bl bs y) (a : App1 w.heap.size vb Bl s vb' (y.alloc o) w') : Ct w va vb' A (Bl ++ [s]) bs w' := (h.flip.appA a).flip
theorem Ct.nil (w : World) : Ct w (.slice none 0 0) (.slice none 0 0) [] [] [] w := ⟨Fm.nil w, OwnS.nil _ _, OwnS.nil _ _, fun g h => by simp [Value.ownBlock] at h, fun i b cs t e => by simp at e⟩
theorem zeroVS (w : World) : (zeroValue 37).run Tryd.prog w = .ok (.agg (spC ⟨0, ⟨0, false, false, false, false, false, false, false, 0⟩⟩)) w := by kernel_rfl
theorem one_bx (y : World) (cs : Array Value) (t : TypeId) : Bx (y.alloc (.cells cs t)) y.heap.size cs t := alloc_last' y _
theorem cutA_step (s : Sn) (l : List Sn) (n : Int) : cutA (s :: l) n = (if 0 < min n s.c then [⟨min n s.c, s.a⟩] else []) ++ cutA l (n - min n s.c) := rfl
theorem cutB_step (s : Sn) (l : List Sn) (n : Int) : cutB (s :: l) n = (if min n s.c < s.c then [⟨s.c - min n s.c, s.a⟩] else []) ++ cutB l (n - min n s.c) := rfl
def cutE (l : List Sn) (n : Int) : Int := if checkS l ≠ 0 then checkS l else if n < 0 ∨ sumC l < n then 1 else 0
def outA (l : List Sn) (n : Int) : List Sn := if cutE l n = 0 then cutA l n else []
def outB (l : List Sn) (n : Int) : List Sn := if cutE l n = 0 then cutB l n else []
end Go.Proofs.YtdfjfacilbahkaaDoor
