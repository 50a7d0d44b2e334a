/- A cycle: a processor and what comes to it, in one box. The boxes of a method of a cycle that has a processor of its own besides. The boxes of functions that take a processor, or a processor and pins, and hand a processor back. -/
import Derived.Test.YtbeeefekndcgnaaGreatDoorCp
import Derived.Deep.MidRow
import Derived.Great.BuildSlice
namespace Go.Proofs.YtbeeefekndcgnaaGreatDoor
open Go Go.RowKit
set_option maxHeartbeats 400000

/-- The world as a letter of which only F is known. -/
theorem gen_world {P : Program} {ops : Array Oper} {rest : List Oper} {a : Act} {Q : Exit → Act → World → Prop} (W : World) (F : World → Prop) (hF : F W) (h : ∀ y, Hid (F y) → wpList P ops Q rest a y) : wpList P ops Q rest a W := h W hF

def cyC (c : Cp) (p : Pn) : Array Value := #[.int .u16 (c.R 0), .int .u16 (c.R 1), .int .u16 (c.R 2), .int .u16 (c.R 3), .int .u16 (c.R 4), .int .u16 (c.R 5), .int .u16 (c.R 6), .int .u16 (c.R 7), .int .u16 (c.R 8), .int .u16 (c.R 9), .int .u16 (c.R 10), .int .u16 (c.R 11), .int .u16 (c.R 12), .int .u16 (c.R 13), .int .u16 (c.R 14), .int .u16 (c.R 15), .int .u8 c.D, .bool c.DF, .int .u8 (c.P : Int), .int .u8 (c.X : Int), .int .u8 c.T, .bool c.IE, .bool c.Q, .int .u8 (c.Op : Int), .int .u8 c.B, .int .u8 (c.Ph : Int), .int .u8 (p.Mode : Int), .int .u8 p.Data, .bool (p.EF 0), .bool (p.EF 1), .bool (p.EF 2), .bool (p.EF 3), .bool p.DI, .bool p.DO, .bool p.Int_]
def BoxY (x : World) (b : Nat) (c : Cp) (p : Pn) : Prop := x.heap[b]? = some (.cells (cyC c p) 52 (0, 0))
def zeroP : Pn := ⟨0, 0, fun _ => false, false, false, false⟩
theorem cyC_size (c : Cp) (p : Pn) : (cyC c p).size = 35 := rfl
theorem infoY : (Tryz.prog.info? 52).map (·.size) = some 35 := by kernel_rfl
theorem cyC_R (c : Cp) (p : Pn) (i : Nat) (h : i < 16) : (cyC c p)[i]? = some (.int .u16 (c.R i)) := by
  match i, h with
  | 0, _ | 1, _ | 2, _ | 3, _ | 4, _ | 5, _ | 6, _ | 7, _ | 8, _ | 9, _ | 10, _ | 11, _ | 12, _ | 13, _ | 14, _ | 15, _ => rfl
  | k + 16, h => exact absurd h (by omega)
theorem cyC_setR (c : Cp) (p : Pn) (i : Nat) (h : i < 16) (v : Int) : (cyC c p).setIfInBounds i (.int .u16 v) = cyC (c.setR i v) p := by
  match i, h with
  | 0, _ | 1, _ | 2, _ | 3, _ | 4, _ | 5, _ | 6, _ | 7, _ | 8, _ | 9, _ | 10, _ | 11, _ | 12, _ | 13, _ | 14, _ | 15, _ => rfl
  | k + 16, h => exact absurd h (by omega)
theorem cyC_up (c : Cp) (p : Pn) (i : Nat) (h : i < 16) : (cyC c p).setIfInBounds i (.int .u16 (IntKind.u16.wrap (c.R i + 1))) = cyC (c.up i) p := by rw [cyC_setR c p i h, IntKind.wrap_u16]; rfl
theorem cyC_down (c : Cp) (p : Pn) (i : Nat) (h : i < 16) : (cyC c p).setIfInBounds i (.int .u16 (IntKind.u16.wrap (c.R i - 1))) = cyC (c.down i) p := by rw [cyC_setR c p i h, IntKind.wrap_u16]; rfl
theorem cpC_up (c : Cp) (i : Nat) (h : i < 16) : (cpC c).setIfInBounds i (.int .u16 (IntKind.u16.wrap (c.R i + 1))) = cpC (c.up i) := by rw [cpC_setR c i h, IntKind.wrap_u16]; rfl
theorem cyC_C (c : Cp) (p : Pn) (j : Nat) (v : Value) (h : (cpC c)[j]? = some v) : (cyC c p)[j]? = some v := by
  match j with
  | 0 | 1 | 2 | 3 | 4 | 5 | 6 | 7 | 8 | 9 | 10 | 11 | 12 | 13 | 14 | 15 | 16 | 17 | 18 | 19 | 20 | 21 | 22 | 23 | 24 | 25 => exact h
  | k + 26 => exact absurd (Array.getElem?_eq_some_iff.1 h).1 (by rw [cpC_size]; omega)
theorem cyC_setD (c : Cp) (p : Pn) (v : Int) : (cyC c p).setIfInBounds 16 (.int .u8 v) = cyC { c with D := v } p := rfl
theorem cyC_setDF (c : Cp) (p : Pn) (v : Bool) : (cyC c p).setIfInBounds 17 (.bool v) = cyC { c with DF := v } p := rfl
theorem cyC_setP (c : Cp) (p : Pn) (v : Nat) : (cyC c p).setIfInBounds 18 (.int .u8 (v : Int)) = cyC { c with P := v } p := rfl
theorem cyC_setX (c : Cp) (p : Pn) (v : Nat) : (cyC c p).setIfInBounds 19 (.int .u8 (v : Int)) = cyC { c with X := v } p := rfl
theorem cyC_setT (c : Cp) (p : Pn) (v : Int) : (cyC c p).setIfInBounds 20 (.int .u8 v) = cyC { c with T := v } p := rfl
theorem cyC_setIE (c : Cp) (p : Pn) (v : Bool) : (cyC c p).setIfInBounds 21 (.bool v) = cyC { c with IE := v } p := rfl
theorem cyC_setQ (c : Cp) (p : Pn) (v : Bool) : (cyC c p).setIfInBounds 22 (.bool v) = cyC { c with Q := v } p := rfl
theorem cyC_setOp (c : Cp) (p : Pn) (v : Nat) : (cyC c p).setIfInBounds 23 (.int .u8 (v : Int)) = cyC { c with Op := v } p := rfl
theorem cyC_setB (c : Cp) (p : Pn) (v : Int) : (cyC c p).setIfInBounds 24 (.int .u8 v) = cyC { c with B := v } p := rfl
theorem cyC_setPh (c : Cp) (p : Pn) (v : Nat) : (cyC c p).setIfInBounds 25 (.int .u8 (v : Int)) = cyC { c with Ph := v } p := rfl
theorem BoxY.r {x : World} {b : Nat} {c : Cp} {p : Pn} (h : BoxY x b c p) (i : Nat) (hi : i < 16) : x.cell? ⟨b, i, none⟩ = some (.int .u16 (c.R i)) := (cell_heap h i).trans (cyC_R c p i hi)
theorem BoxY.f {x : World} {b : Nat} {c : Cp} {p : Pn} (h : BoxY x b c p) (i : Nat) (v : Value) (hv : (cyC c p)[i]? = some v) : x.cell? ⟨b, i, none⟩ = some v := (cell_heap h i).trans hv
theorem BoxY.fR0 {x : World} {b : Nat} {c : Cp} {p : Pn} (h : BoxY x b c p) : x.cell? ⟨b, 0, none⟩ = some (.int .u16 (c.R 0)) := h.f 0 _ rfl
theorem BoxY.fR2 {x : World} {b : Nat} {c : Cp} {p : Pn} (h : BoxY x b c p) : x.cell? ⟨b, 2, none⟩ = some (.int .u16 (c.R 2)) := h.f 2 _ rfl
theorem BoxY.fD {x : World} {b : Nat} {c : Cp} {p : Pn} (h : BoxY x b c p) : x.cell? ⟨b, 16, none⟩ = some (.int .u8 c.D) := h.f 16 _ rfl
theorem BoxY.fDF {x : World} {b : Nat} {c : Cp} {p : Pn} (h : BoxY x b c p) : x.cell? ⟨b, 17, none⟩ = some (.bool c.DF) := h.f 17 _ rfl
theorem BoxY.fP {x : World} {b : Nat} {c : Cp} {p : Pn} (h : BoxY x b c p) : x.cell? ⟨b, 18, none⟩ = some (.int .u8 (c.P : Int)) := h.f 18 _ rfl
theorem BoxY.fX {x : World} {b : Nat} {c : Cp} {p : Pn} (h : BoxY x b c p) : x.cell? ⟨b, 19, none⟩ = some (.int .u8 (c.X : Int)) := h.f 19 _ rfl
theorem BoxY.fT {x : World} {b : Nat} {c : Cp} {p : Pn} (h : BoxY x b c p) : x.cell? ⟨b, 20, none⟩ = some (.int .u8 c.T) := h.f 20 _ rfl
theorem BoxY.fIE {x : World} {b : Nat} {c : Cp} {p : Pn} (h : BoxY x b c p) : x.cell? ⟨b, 21, none⟩ = some (.bool c.IE) := h.f 21 _ rfl
theorem BoxY.fQ {x : World} {b : Nat} {c : Cp} {p : Pn} (h : BoxY x b c p) : x.cell? ⟨b, 22, none⟩ = some (.bool c.Q) := h.f 22 _ rfl
theorem BoxY.fOp {x : World} {b : Nat} {c : Cp} {p : Pn} (h : BoxY x b c p) : x.cell? ⟨b, 23, none⟩ = some (.int .u8 (c.Op : Int)) := h.f 23 _ rfl
theorem BoxY.fB {x : World} {b : Nat} {c : Cp} {p : Pn} (h : BoxY x b c p) : x.cell? ⟨b, 24, none⟩ = some (.int .u8 c.B) := h.f 24 _ rfl
theorem BoxY.fPh {x : World} {b : Nat} {c : Cp} {p : Pn} (h : BoxY x b c p) : x.cell? ⟨b, 25, none⟩ = some (.int .u8 (c.Ph : Int)) := h.f 25 _ rfl
theorem BoxY.fMode {x : World} {b : Nat} {c : Cp} {p : Pn} (h : BoxY x b c p) : x.cell? ⟨b, 26, none⟩ = some (.int .u8 (p.Mode : Int)) := h.f 26 _ rfl
theorem BoxY.fData {x : World} {b : Nat} {c : Cp} {p : Pn} (h : BoxY x b c p) : x.cell? ⟨b, 27, none⟩ = some (.int .u8 p.Data) := h.f 27 _ rfl
theorem BoxY.fE0 {x : World} {b : Nat} {c : Cp} {p : Pn} (h : BoxY x b c p) : x.cell? ⟨b, 28, none⟩ = some (.bool (p.EF 0)) := h.f 28 _ rfl
theorem BoxY.fE1 {x : World} {b : Nat} {c : Cp} {p : Pn} (h : BoxY x b c p) : x.cell? ⟨b, 29, none⟩ = some (.bool (p.EF 1)) := h.f 29 _ rfl
theorem BoxY.fE2 {x : World} {b : Nat} {c : Cp} {p : Pn} (h : BoxY x b c p) : x.cell? ⟨b, 30, none⟩ = some (.bool (p.EF 2)) := h.f 30 _ rfl
theorem BoxY.fE3 {x : World} {b : Nat} {c : Cp} {p : Pn} (h : BoxY x b c p) : x.cell? ⟨b, 31, none⟩ = some (.bool (p.EF 3)) := h.f 31 _ rfl
theorem BoxY.fDI {x : World} {b : Nat} {c : Cp} {p : Pn} (h : BoxY x b c p) : x.cell? ⟨b, 32, none⟩ = some (.bool p.DI) := h.f 32 _ rfl
theorem BoxY.fDO {x : World} {b : Nat} {c : Cp} {p : Pn} (h : BoxY x b c p) : x.cell? ⟨b, 33, none⟩ = some (.bool p.DO) := h.f 33 _ rfl
theorem BoxY.fInt {x : World} {b : Nat} {c : Cp} {p : Pn} (h : BoxY x b c p) : x.cell? ⟨b, 34, none⟩ = some (.bool p.Int_) := h.f 34 _ rfl
theorem BoxY.fz {x : World} {b : Nat} {c : Cp} {p : Pn} (h : BoxY x b c p) (i : Nat) : x.frozen? ⟨b, i, none⟩ = false := frozen_heap h i
theorem BoxY.set {x : World} {b : Nat} {c c' : Cp} {p : Pn} (h : BoxY x b c p) (i : Nat) (v : Value) (hv : (cyC c p).setIfInBounds i v = cyC c' p) : BoxY (x.setCell ⟨b, i, none⟩ v) b c' p := by
  have := heap_setCell_same x b i (cyC c p) 52 v h
  rw [hv] at this
  exact this
theorem BoxY.below {x y : World} {b : Nat} {c : Cp} {p : Pn} (h : BoxY x b c p) (hb : Below x.heap.size x y) : BoxY y b c p := (hb.block b (heap_lt h)).trans h
theorem BoxY.new (w : World) (c : Cp) (p : Pn) : BoxY (w.alloc (.cells (cyC c p) 52)) w.heap.size c p := alloc_last' w _

/-- The whole cycle out of its box. -/
theorem at_loadY {ops : Array Oper} {rest : List Oper} {o : Oper} {a : Act} {w : World} {Q : Exit → Act → World → Prop} (b : Nat) (c : Cp) (p : Pn) (h : Hid (BoxY w b c p)) (x : Operand) (hgd : o.guard = none) (ho : o.op = .load 52 x) (hx : a.eval x = .pointer (some ⟨b, 0, none⟩))
    (k : wpList Tryz.prog ops Q rest (a.put o.dst (.agg (cyC c p))) w) : wpList Tryz.prog ops Q (o :: rest) a w :=
  wpList_load_row hgd 52 x ho b hx 52 (cyC c p) (0, 0) _ h.out Tryz.underlying52 rfl infoY k
theorem BoxY.range {x : World} {b : Nat} {c : Cp} {p : Pn} (h : BoxY x b c p) : x.rangeAt b 0 (cpC c).toList := fun j v hv => by
  rw [Nat.zero_add]
  exact h.f j v (cyC_C c p j v (by simpa using hv))
/-- Its processor out of that box. -/
theorem at_loadYC {ops : Array Oper} {rest : List Oper} {o : Oper} {a : Act} {w : World} {Q : Exit → Act → World → Prop} (b : Nat) (c : Cp) (p : Pn) (h : Hid (BoxY w b c p)) (x : Operand) (hgd : o.guard = none) (ho : o.op = .load 26 x) (hx : a.eval x = .pointer (some ⟨b, 0, none⟩))
    (k : wpList Tryz.prog ops Q rest (a.put o.dst (.agg (cpC c))) w) : wpList Tryz.prog ops Q (o :: rest) a w :=
  wpList_load_mid hgd 26 x ho b 0 hx (cpC c).toList _ h.out.range Tryz.underlying26 rfl infoC (by rw [Array.toArray_toList]; exact k)

/-- The boxes of a method of a cycle that hands a processor back. -/
structure Fy (w : World) (b0 : Nat) (c : Cp) (p : Pn) (b2 : Nat) (z : Cp) (y : World) : Prop where
  yb : BoxY y b0 c p
  z : BoxC y b2 z
  low : Below w.heap.size w y
  l0 : w.heap.size ≤ b0
  l2 : w.heap.size ≤ b2
  ne : b0 ≠ b2
theorem Fy.start (w : World) (c : Cp) (p : Pn) : Fy w w.heap.size c p (w.heap.size + 1) zeroC ((w.alloc (.cells (cyC c p) 52)).alloc (.cells (cpC zeroC) 26)) :=
  ⟨(BoxY.new w c p).below ((Below.refl _ _).alloc (Nat.le_refl _) _), BoxC.new1 w _ zeroC, below2 w _ _, Nat.le_refl _, by omega, by omega⟩
theorem Fy.below {w : World} {b0 b2 : Nat} {c z : Cp} {p : Pn} {y y' : World} (h : Fy w b0 c p b2 z y) (hb : Below y.heap.size y y') : Fy w b0 c p b2 z y' := ⟨h.yb.below hb, h.z.below hb, h.low.trans (hb.mono h.low.size), h.l0, h.l2, h.ne⟩
theorem Fy.setC {w : World} {b0 b2 : Nat} {c c' z : Cp} {p : Pn} {y : World} (h : Fy w b0 c p b2 z y) (i : Nat) (v : Value) (hv : (cyC c p).setIfInBounds i v = cyC c' p) : Fy w b0 c' p b2 z (y.setCell ⟨b0, i, none⟩ v) :=
  ⟨h.yb.set i v hv, (heap_setCell_other y ⟨b0, i, none⟩ b2 v (fun e => h.ne e.symm)).trans h.z, h.low.setCell (p := ⟨b0, i, none⟩) h.l0 v, h.l0, h.l2, h.ne⟩

/-- A cycle made of a processor and pins. -/
theorem builtY (c : Cp) (p : Pn) : Tryz.prog.built 52 [(0, .agg (cpC c)), (1, .agg (pnC p))] = some (cyC c p) := by kernel_rfl
theorem builtY0 (c : Cp) : Tryz.prog.built 52 [(0, .agg (cpC c))] = some (cyC c zeroP) := by kernel_rfl
theorem at_buildY {ops : Array Oper} {rest : List Oper} {o : Oper} {a : Act} {w : World} {Q : Exit → Act → World → Prop} (c : Cp) (p : Pn) (x y : Operand) (hg : o.guard = none) (ho : o.op = .build 52 #[(0, x), (1, y)]) (hx : a.eval x = .agg (cpC c)) (hy : a.eval y = .agg (pnC p)) (d : Option Tmp) (hd : o.dst = d)
    (h : wpList Tryz.prog ops Q rest (a.put d (.agg (cyC c p))) w) : wpList Tryz.prog ops Q (o :: rest) a w := by
  refine wpList_buildTo hg 52 _ ho d hd (cyC c p) ?_ h
  have e : ((#[(0, x), (1, y)] : Array (Nat × Operand)).map fun (i, x) => (i, a.eval x)).toList = [(0, .agg (cpC c)), (1, .agg (pnC p))] := by simp [hx, hy]
  rw [e]
  exact builtY c p
end Go.Proofs.YtbeeefekndcgnaaGreatDoor

namespace Go.Proofs.YtbeeefekndcgnaaGreatDoor
open Go Go.RowKit

structure Fz (w : World) (b0 : Nat) (c : Cp) (p : Pn) (b2 : Nat) (z : Cp) (bl : Nat) (l : Cp) (y : World) : Prop where
  f : Fy w b0 c p b2 z y
  l : BoxC y bl l
  ll : w.heap.size ≤ bl
  n0 : b0 ≠ bl
  n2 : b2 ≠ bl
theorem Fz.new {w : World} {b0 b2 : Nat} {c z : Cp} {p : Pn} {y : World} (h : Fy w b0 c p b2 z y) (l : Cp) : Fz w b0 c p b2 z y.heap.size l (y.alloc (.cells (cpC l) 26)) := by
  have h0 := heap_lt h.yb
  have h2 := heap_lt h.z
  exact ⟨h.below ((Below.refl _ _).alloc (Nat.le_refl _) _), BoxC.new y l, h.low.size, by omega, by omega⟩
theorem Fz.below {w : World} {b0 b2 bl : Nat} {c z l : Cp} {p : Pn} {y y' : World} (h : Fz w b0 c p b2 z bl l y) (hb : Below y.heap.size y y') : Fz w b0 c p b2 z bl l y' := ⟨h.f.below hb, h.l.below hb, h.ll, h.n0, h.n2⟩
theorem Fz.setL {w : World} {b0 b2 bl : Nat} {c z l l' : Cp} {p : Pn} {y : World} (h : Fz w b0 c p b2 z bl l y) (i : Nat) (v : Value) (hv : (cpC l).setIfInBounds i v = cpC l') : Fz w b0 c p b2 z bl l' (y.setCell ⟨bl, i, none⟩ v) :=
  ⟨⟨(heap_setCell_other y ⟨bl, i, none⟩ b0 v h.n0).trans h.f.yb, (heap_setCell_other y ⟨bl, i, none⟩ b2 v h.n2).trans h.f.z, h.f.low.setCell (p := ⟨bl, i, none⟩) h.ll v, h.f.l0, h.f.l2, h.f.ne⟩, h.l.set i v hv, h.ll, h.n0, h.n2⟩
theorem Fz.putL {w : World} {b0 b2 bl : Nat} {c z l l' : Cp} {p : Pn} {y y' : World} (h : Fz w b0 c p b2 z bl l y) (k : BoxC y' bl l' ∧ (∀ B, B ≤ bl → Below B y y') ∧ ∀ q, q ≠ bl → y'.heap[q]? = y.heap[q]?) : Fz w b0 c p b2 z bl l' y' :=
  ⟨⟨(k.2.2 b0 h.n0).trans h.f.yb, (k.2.2 b2 h.n2).trans h.f.z, h.f.low.trans (k.2.1 _ h.ll), h.f.l0, h.f.l2, h.f.ne⟩, k.1, h.ll, h.n0, h.n2⟩
end Go.Proofs.YtbeeefekndcgnaaGreatDoor

namespace Go.Proofs.YtbeeefekndcgnaaGreatDoor
open Go Go.RowKit

/-- The boxes of a function that takes a processor and pins and hands a processor back. -/
structure Fr (w : World) (b0 : Nat) (c : Cp) (b1 : Nat) (p : Pn) (b2 : Nat) (z : Cp) (y : World) : Prop where
  c : BoxC y b0 c
  p : BoxP y b1 p
  z : BoxC y b2 z
  low : Below w.heap.size w y
  l0 : w.heap.size ≤ b0
  l2 : w.heap.size ≤ b2
  ne : b0 ≠ b2
theorem Fr.pne {w : World} {b0 b1 b2 : Nat} {c z : Cp} {p : Pn} {y : World} (h : Fr w b0 c b1 p b2 z y) : b1 ≠ b0 := fun e => by
  have h1 := h.p
  have h2 := h.c
  unfold BoxP at h1
  unfold BoxC at h2
  subst e
  rw [h2] at h1
  simp at h1
theorem Fr.start (w : World) (c : Cp) (p : Pn) : Fr w w.heap.size c (w.heap.size + 1) p (w.heap.size + 1 + 1) zeroC (((w.alloc (.cells (cpC c) 26)).alloc (.cells (pnC p) 38)).alloc (.cells (cpC zeroC) 26)) := by
  have e : (w.alloc (.cells (cpC c) 26)).heap.size = w.heap.size + 1 := by simp
  have hp : BoxP ((w.alloc (.cells (cpC c) 26)).alloc (.cells (pnC p) 38)) (w.heap.size + 1) p := by
    have h := alloc_last' (w.alloc (.cells (cpC c) 26)) (.cells (pnC p) 38)
    rw [e] at h
    exact h
  have hz := BoxC.new1 (w.alloc (.cells (cpC c) 26)) (.cells (pnC p) 38) zeroC
  rw [e] at hz
  exact ⟨((BoxC.new w c).alloc _).alloc _, hp.below ((Below.refl _ _).alloc (Nat.le_refl _) _), hz, (below2 w _ _).alloc (below2 w _ _).size _, Nat.le_refl _, by omega, by omega⟩
theorem Fr.below {w : World} {b0 b1 b2 : Nat} {c z : Cp} {p : Pn} {y y' : World} (h : Fr w b0 c b1 p b2 z y) (hb : Below y.heap.size y y') : Fr w b0 c b1 p b2 z y' := ⟨h.c.below hb, h.p.below hb, h.z.below hb, h.low.trans (hb.mono h.low.size), h.l0, h.l2, h.ne⟩
theorem Fr.setC {w : World} {b0 b1 b2 : Nat} {c c' z : Cp} {p : Pn} {y : World} (h : Fr w b0 c b1 p b2 z y) (i : Nat) (v : Value) (hv : (cpC c).setIfInBounds i v = cpC c') : Fr w b0 c' b1 p b2 z (y.setCell ⟨b0, i, none⟩ v) :=
  ⟨h.c.set i v hv, (heap_setCell_other y ⟨b0, i, none⟩ b1 v h.pne).trans h.p, (heap_setCell_other y ⟨b0, i, none⟩ b2 v (fun e => h.ne e.symm)).trans h.z, h.low.setCell (p := ⟨b0, i, none⟩) h.l0 v, h.l0, h.l2, h.ne⟩
theorem Fr.putC {w : World} {b0 b1 b2 : Nat} {c c' z : Cp} {p : Pn} {y y' : World} (h : Fr w b0 c b1 p b2 z y) (k : BoxC y' b0 c' ∧ (∀ B, B ≤ b0 → Below B y y') ∧ ∀ q, q ≠ b0 → y'.heap[q]? = y.heap[q]?) : Fr w b0 c' b1 p b2 z y' :=
  ⟨k.1, (k.2.2 b1 h.pne).trans h.p, (k.2.2 b2 (fun e => h.ne e.symm)).trans h.z, h.low.trans (k.2.1 _ h.l0), h.l0, h.l2, h.ne⟩


structure Fc (w : World) (b0 : Nat) (c : Cp) (b2 : Nat) (z : Cp) (y : World) : Prop where
  c : BoxC y b0 c
  z : BoxC y b2 z
  low : Below w.heap.size w y
  l0 : w.heap.size ≤ b0
  l2 : w.heap.size ≤ b2
  ne : b0 ≠ b2
theorem Fc.start (w : World) (c : Cp) : Fc w w.heap.size c (w.heap.size + 1) zeroC ((w.alloc (.cells (cpC c) 26)).alloc (.cells (cpC zeroC) 26)) :=
  ⟨(BoxC.new w c).alloc _, BoxC.new1 w _ zeroC, below2 w _ _, Nat.le_refl _, by omega, by omega⟩
theorem Fc.setC {w : World} {b0 b2 : Nat} {c c' z : Cp} {y : World} (h : Fc w b0 c b2 z y) (i : Nat) (v : Value) (hv : (cpC c).setIfInBounds i v = cpC c') : Fc w b0 c' b2 z (y.setCell ⟨b0, i, none⟩ v) :=
  ⟨h.c.set i v hv, (heap_setCell_other y ⟨b0, i, none⟩ b2 v (fun e => h.ne e.symm)).trans h.z, h.low.setCell (p := ⟨b0, i, none⟩) h.l0 v, h.l0, h.l2, h.ne⟩
theorem Fc.below {w : World} {b0 b2 : Nat} {c z : Cp} {y y' : World} (h : Fc w b0 c b2 z y) (hb : Below y.heap.size y y') : Fc w b0 c b2 z y' := ⟨h.c.below hb, h.z.below hb, h.low.trans (hb.mono h.low.size), h.l0, h.l2, h.ne⟩
/-- A processor made of nothing. -/
theorem built0 : Tryz.prog.built 26 [] = some (cpC zeroC) := by kernel_rfl
theorem at_build0 {ops : Array Oper} {rest : List Oper} {o : Oper} {a : Act} {w : World} {Q : Exit → Act → World → Prop} (hg : o.guard = none) (ho : o.op = .build 26 #[]) (d : Option Tmp) (hd : o.dst = d)
    (h : wpList Tryz.prog ops Q rest (a.put d (.agg (cpC zeroC))) w) : wpList Tryz.prog ops Q (o :: rest) a w :=
  wpList_buildTo hg 26 _ ho d hd (cpC zeroC) (by simpa using built0) h
end Go.Proofs.YtbeeefekndcgnaaGreatDoor
