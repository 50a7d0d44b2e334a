/- What the processor does to the bus, in a box; the boxes of Drive's functions. In a region that draws its order and makes memory: what may be taken first. -/
import Derived.Test.YtbeeefekndcgnaaGreatDoorCy
import Derived.Test.YtbeeefekndcgnaaGreatDoorPl
import Derived.Deep.RegionHeld3
namespace Go.Proofs.YtbeeefekndcgnaaGreatDoor
open Go Go.RowKit

def BoxD (x : World) (b : Nat) (d : Dv) : Prop := x.heap[b]? = some (.cells (dvC d) 33 (0, 0))
theorem BoxD.f {x : World} {b : Nat} {d : Dv} (h : BoxD x b d) (i : Nat) (v : Value) (hv : (dvC d)[i]? = some v) : x.cell? ⟨b, i, none⟩ = some v := (cell_heap h i).trans hv
theorem BoxD.f0 {x : World} {b : Nat} {d : Dv} (h : BoxD x b d) : x.cell? ⟨b, 0, none⟩ = some (.int .u8 d.Code) := h.f 0 _ rfl
theorem BoxD.f1 {x : World} {b : Nat} {d : Dv} (h : BoxD x b d) : x.cell? ⟨b, 1, none⟩ = some (.int .u16 d.Addr) := h.f 1 _ rfl
theorem BoxD.f2 {x : World} {b : Nat} {d : Dv} (h : BoxD x b d) : x.cell? ⟨b, 2, none⟩ = some (.bool d.Rd) := h.f 2 _ rfl
theorem BoxD.f3 {x : World} {b : Nat} {d : Dv} (h : BoxD x b d) : x.cell? ⟨b, 3, none⟩ = some (.bool d.Wr) := h.f 3 _ rfl
theorem BoxD.f4 {x : World} {b : Nat} {d : Dv} (h : BoxD x b d) : x.cell? ⟨b, 4, none⟩ = some (.bool d.Own) := h.f 4 _ rfl
theorem BoxD.f5 {x : World} {b : Nat} {d : Dv} (h : BoxD x b d) : x.cell? ⟨b, 5, none⟩ = some (.int .u8 d.Data) := h.f 5 _ rfl
theorem BoxD.f6 {x : World} {b : Nat} {d : Dv} (h : BoxD x b d) : x.cell? ⟨b, 6, none⟩ = some (.int .u8 d.Port) := h.f 6 _ rfl
theorem BoxD.f7 {x : World} {b : Nat} {d : Dv} (h : BoxD x b d) : x.cell? ⟨b, 7, none⟩ = some (.bool d.Pulse) := h.f 7 _ rfl
theorem BoxD.fz {x : World} {b : Nat} {d : Dv} (h : BoxD x b d) (i : Nat) : x.frozen? ⟨b, i, none⟩ = false := frozen_heap h i
theorem BoxD.set {x : World} {b : Nat} {d d' : Dv} (h : BoxD x b d) (i : Nat) (v : Value) (hv : (dvC d).setIfInBounds i v = dvC d') : BoxD (x.setCell ⟨b, i, none⟩ v) b d' := by
  have := heap_setCell_same x b i (dvC d) 33 v h
  rw [hv] at this
  exact this
theorem BoxD.below {x y : World} {b : Nat} {d : Dv} (h : BoxD x b d) (hb : Below x.heap.size x y) : BoxD y b d := (hb.block b (heap_lt h)).trans h
theorem BoxD.new (w : World) (d : Dv) : BoxD (w.alloc (.cells (dvC d) 33)) w.heap.size d := alloc_last' w _
theorem zeroVD (w : World) : (zeroValue 33).run Tryz.prog w = .ok (.agg (dvC zeroD)) w := by kernel_rfl
theorem at_loadD {ops : Array Oper} {rest : List Oper} {o : Oper} {a : Act} {w : World} {Q : Exit → Act → World → Prop} (b : Nat) (d : Dv) (h : Hid (BoxD w b d)) (x : Operand) (hgd : o.guard = none) (ho : o.op = .load 33 x) (hx : a.eval x = .pointer (some ⟨b, 0, none⟩))
    (k : wpList Tryz.prog ops Q rest (a.put o.dst (.agg (dvC d))) w) : wpList Tryz.prog ops Q (o :: rest) a w :=
  wpList_load_row hgd 33 x ho b hx 33 (dvC d) (0, 0) _ h.out Tryz.underlying33 rfl infoD k
theorem at_storeD {ops : Array Oper} {rest : List Oper} {o : Oper} {a : Act} {w : World} {Q : Exit → Act → World → Prop} (b : Nat) (d0 d : Dv) (h : Hid (BoxD w b d0)) (x y : Operand) (hgd : o.guard = none) (ho : o.op = .store 33 x y) (hx : a.eval x = .pointer (some ⟨b, 0, none⟩)) (hy : a.eval y = .agg (dvC d))
    (k : ∀ w', Hid (BoxD w' b d ∧ (∀ B, B ≤ b → Below B w w') ∧ ∀ q, q ≠ b → w'.heap[q]? = w.heap[q]?) → wpList Tryz.prog ops Q rest (a.put o.dst undef) w') : wpList Tryz.prog ops Q (o :: rest) a w :=
  wpList_store_row hgd 33 x y ho b (dvC d) hx hy 33 (dvC d0) h.out infoD rfl (dvC_one d) (k _ ⟨setRow_heap w b _ _ 33 _ h.out, fun B hB => ⟨rfl, rfl, rfl, by simp, fun q hq => setRow_other w b q _ (by omega)⟩, fun q hq => setRow_other w b q _ hq⟩)
theorem retD {fn : Func} {R : Ending → World → Prop} {a : Act} {w : World} {p : Tmp} {b : Nat} {d : Dv} (hr : fn.results = #[.cell p 33]) (hp : a.tmps.getD p undef = .pointer (some ⟨b, 0, none⟩)) (h : BoxD w b d) (hd : a.defers = []) (hR : R (.returned (.agg (dvC d))) w) : bodyPost Tryz.prog fn R .ret a w :=
  bodyPost_ret (results_cell_row hr a.tmps w b 33 (dvC d) (0, 0) _ hp h Tryz.underlying33 rfl infoD) hd hR
/-- A drive made of its fields. -/
theorem at_buildD {ops : Array Oper} {rest : List Oper} {o : Oper} {a : Act} {w : World} {Q : Exit → Act → World → Prop} (parts : Array (Nat × Operand)) (l : List (Nat × Value)) (d : Dv) (hg : o.guard = none) (ho : o.op = .build 33 parts) (hl : (parts.map fun (i, x) => (i, a.eval x)).toList = l) (hb : Tryz.prog.built 33 l = some (dvC d)) (t : Option Tmp) (hd : o.dst = t)
    (h : wpList Tryz.prog ops Q rest (a.put t (.agg (dvC d))) w) : wpList Tryz.prog ops Q (o :: rest) a w :=
  wpList_buildTo hg 33 _ ho t hd (dvC d) (by rw [hl]; exact hb) h
theorem quiet_buildD {C : World → Prop} {o : Oper} {a : Act} (parts : Array (Nat × Operand)) (l : List (Nat × Value)) (d : Dv) (ho : o.op = .build 33 parts) (hl : (parts.map fun (i, x) => (i, a.eval x)).toList = l) (hb : Tryz.prog.built 33 l = some (dvC d)) : ∀ w, C w → o.quietAt Tryz.prog a C w (.agg (dvC d)) := fun w hw => by
  have hb := run_build (P := Tryz.prog) w 33 (parts.map fun (i, x) => (i, a.eval x)) (dvC d) (by rw [hl]; exact hb)
  unfold Oper.quietAt execOp
  simp only [ho, Sem.run_bind, hb, Result.andThen_ok]
  exact ⟨rfl, rfl⟩
/-- The boxes of a function that takes a processor and hands a drive back. -/
structure Ge (w : World) (b0 : Nat) (c : Cp) (b2 : Nat) (z : Dv) (y : World) : Prop where
  c : BoxC y b0 c
  z : BoxD y b2 z
  low : Below w.heap.size w y
  l0 : w.heap.size ≤ b0
  l2 : w.heap.size ≤ b2
  ne : b0 ≠ b2
theorem Ge.start (w : World) (c : Cp) : Ge w w.heap.size c (w.heap.size + 1) zeroD ((w.alloc (.cells (cpC c) 26)).alloc (.cells (dvC zeroD) 33)) := by
  have h := alloc_last' (w.alloc (.cells (cpC c) 26)) (.cells (dvC zeroD) 33)
  have e : (w.alloc (.cells (cpC c) 26)).heap.size = w.heap.size + 1 := by simp
  rw [e] at h
  exact ⟨(BoxC.new w c).alloc _, h, below2 w _ _, Nat.le_refl _, by omega, by omega⟩
theorem Ge.below {w : World} {b0 b2 : Nat} {c : Cp} {z : Dv} {y y' : World} (h : Ge w b0 c b2 z y) (hb : Below y.heap.size y y') : Ge w b0 c b2 z y' := ⟨h.c.below hb, h.z.below hb, h.low.trans (hb.mono h.low.size), h.l0, h.l2, h.ne⟩
/-- The same, with a drive of its own. -/
structure Gl (w : World) (b0 : Nat) (c : Cp) (b2 : Nat) (z : Dv) (bl : Nat) (l : Dv) (y : World) : Prop where
  f : Ge w b0 c b2 z y
  l : BoxD y bl l
  ll : w.heap.size ≤ bl
  n0 : b0 ≠ bl
  n2 : b2 ≠ bl
theorem Gl.new {w : World} {b0 b2 : Nat} {c : Cp} {z : Dv} {y : World} (h : Ge w b0 c b2 z y) (l : Dv) : Gl w b0 c b2 z y.heap.size l (y.alloc (.cells (dvC l) 33)) := by
  have h0 := heap_lt h.c
  have h2 := heap_lt h.z
  exact ⟨h.below ((Below.refl _ _).alloc (Nat.le_refl _) _), BoxD.new y l, h.low.size, by omega, by omega⟩
theorem Gl.below {w : World} {b0 b2 bl : Nat} {c : Cp} {z l : Dv} {y y' : World} (h : Gl w b0 c b2 z bl l y) (hb : Below y.heap.size y y') : Gl w b0 c b2 z bl l y' := ⟨h.f.below hb, h.l.below hb, h.ll, h.n0, h.n2⟩
theorem Gl.setL {w : World} {b0 b2 bl : Nat} {c : Cp} {z l l' : Dv} {y : World} (h : Gl w b0 c b2 z bl l y) (i : Nat) (v : Value) (hv : (dvC l).setIfInBounds i v = dvC l') : Gl w b0 c b2 z bl l' (y.setCell ⟨bl, i, none⟩ v) :=
  ⟨⟨(heap_setCell_other y ⟨bl, i, none⟩ b0 v h.n0).trans h.f.c, (heap_setCell_other y ⟨bl, i, none⟩ b2 v h.n2).trans h.f.z, h.f.low.setCell (p := ⟨bl, i, none⟩) h.ll v, h.f.l0, h.f.l2, h.f.ne⟩, h.l.set i v hv, h.ll, h.n0, h.n2⟩
theorem Gl.putL {w : World} {b0 b2 bl : Nat} {c : Cp} {z l l' : Dv} {y y' : World} (h : Gl w b0 c b2 z bl l y) (k : BoxD y' bl l' ∧ (∀ B, B ≤ bl → Below B y y') ∧ ∀ q, q ≠ bl → y'.heap[q]? = y.heap[q]?) : Gl w b0 c b2 z bl l' y' :=
  ⟨⟨(k.2.2 b0 h.n0).trans h.f.c, (k.2.2 b2 h.n2).trans h.f.z, h.f.low.trans (k.2.1 _ h.ll), h.f.l0, h.f.l2, h.f.ne⟩, k.1, h.ll, h.n0, h.n2⟩
end Go.Proofs.YtbeeefekndcgnaaGreatDoor

namespace Go.Proofs.YtbeeefekndcgnaaGreatDoor
open Go Go.RowKit

theorem yieldsC {ops : Array Oper} {S : World → Prop} {o : Oper} {a : Act} (b : Nat) (c : Cp) (h : ∀ w, S w → BoxC w b c) (x : Operand) (hw : Region.wanted o (yielded ops a.tmps) = true) (ho : o.op = .load 26 x) (hx : a.eval x = .pointer (some ⟨b, 0, none⟩)) : YieldsIf Tryz.prog ops S o (.agg (cpC c)) a := by
  have := yieldsIf_load_mid (P := Tryz.prog) (S := S) hw 26 x ho b 0 hx (cpC c).toList _ (fun w hS j v hv => by rw [Nat.zero_add]; exact (h w hS).f j v (by simpa using hv)) Tryz.underlying26 rfl infoC
  rwa [Array.toArray_toList] at this
theorem yieldsD {ops : Array Oper} {S : World → Prop} {o : Oper} {a : Act} (parts : Array (Nat × Operand)) (l : List (Nat × Value)) (d : Dv) (hw : Region.wanted o (yielded ops a.tmps) = true) (ho : o.op = .build 33 parts) (hl : (parts.map fun (i, x) => (i, a.eval x)).toList = l) (hb : Tryz.prog.built 33 l = some (dvC d)) : YieldsIf Tryz.prog ops S o (.agg (dvC d)) a :=
  .inl ⟨hw, fun w _ => by
    have hb := run_build (P := Tryz.prog) w 33 (parts.map fun (i, x) => (i, a.eval x)) (dvC d) (by rw [hl]; exact hb)
    unfold execOp
    simp only [ho, Sem.run_bind, hb, Result.andThen_ok, Sem.run_pure]⟩
theorem wp_storeD {o : Oper} {a : Act} {w : World} {K : Act → World → Prop} {Q : Exit → Act → World → Prop} (b : Nat) (d0 d : Dv) (h : BoxD w b d0) (x y : Operand) (ho : o.op = .store 33 x y) (hx : a.eval x = .pointer (some ⟨b, 0, none⟩)) (hy : a.eval y = .agg (dvC d))
    (k : ∀ w', Hid (BoxD w' b d ∧ (∀ B, B ≤ b → Below B w w') ∧ ∀ q, q ≠ b → w'.heap[q]? = w.heap[q]?) → K (a.put o.dst undef) w') : o.wp Tryz.prog a w K Q :=
  wp_store_row 33 x y ho b (dvC d) hx hy 33 (dvC d0) h infoD rfl (dvC_one d) (k _ ⟨setRow_heap w b _ _ 33 _ h, fun B hB => ⟨rfl, rfl, rfl, by simp, fun q hq => setRow_other w b q _ (by omega)⟩, fun q hq => setRow_other w b q _ hq⟩)
end Go.Proofs.YtbeeefekndcgnaaGreatDoor
