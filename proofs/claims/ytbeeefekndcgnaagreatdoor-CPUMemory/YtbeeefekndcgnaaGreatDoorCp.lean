/- A processor, what comes to it and what it does, as plain data; their cells. -/
import Derived.Test.YtbeeefekndcgnaaGreatDoorRows
import Derived.Below
import Derived.FnData
import Derived.WalkKit
import Derived.WalkSpells
import Derived.WalkLawsBesides
import Derived.ChangeKeysEq
import Derived.Deep.QuietTactic
import Derived.BigQuiet
import Derived.Deep.OwnRows
import Derived.Handy
import Derived.Laws.Rows
import Derived.OwnWalk
namespace Go.Proofs.YtbeeefekndcgnaaGreatDoor
open Go Go.RowKit
set_option maxHeartbeats 400000

theorem idx {P : Program} {t e : TypeId} {N s g off : Nat} (ht : P.underlying t = some (.array N e)) (hs : (P.info? e).map (·.size) = some s) (k : IntKind) (i : Nat) (w : World) (h : i < N) :
   (Instr.indexAt t (.pointer (some ⟨g, off, none⟩)) (.int k (i : Int))).run P w = .ok (.pointer (some ⟨g, off + i * s, none⟩)) w := by
  have e1 : P.arrayLen t = N := by unfold Program.arrayLen; rw [ht]
  have e2 : P.elem t = e := by unfold Program.elem; rw [ht]
  rw [run_indexAt_array _ _ _ _ _ (by rw [e1, e2, ht]), e1, e2, if_pos ⟨by omega, by omega⟩]
  obtain ⟨inf, hi, rfl⟩ := Option.map_eq_some_iff.1 hs
  have e3 : P.cellsOf e = inf.size := by unfold Program.cellsOf; rw [hi]; rfl
  rw [run_sizeOf _ hi, e3]
  have e4 : (⟨g, off, none⟩ : Addr).add (i * inf.size) = ⟨g, off + i * inf.size, none⟩ := by
    unfold Addr.add
    split
    · rename_i h0; rw [h0]; rfl
    · rfl
  simp [e4]
theorem cell_heap {x : World} {b t : Nat} {cs : Array Value} (h : x.heap[b]? = some (.cells cs t (0, 0))) (j : Nat) : x.cell? ⟨b, j, none⟩ = cs[j]? := by unfold World.cell?; simp [h]
theorem frozen_heap {x : World} {b t : Nat} {cs : Array Value} (h : x.heap[b]? = some (.cells cs t (0, 0))) (j : Nat) : x.frozen? ⟨b, j, none⟩ = false := by unfold World.frozen?; simp [h]
theorem heap_lt {x : World} {b : Nat} {o : Obj} (h : x.heap[b]? = some o) : b < x.heap.size := (Array.getElem?_eq_some_iff.1 h).1
theorem alloc_last' (w : World) (o : Obj) : (w.alloc o).heap[w.heap.size]? = some o := by unfold World.alloc; simp
theorem below_drewN {B : Nat} {a w : World} (h : Below B a w) {n : Nat} : Below B a (w.drewN n) := ⟨h.os, h.tape, h.output, h.size, h.block⟩
theorem below_drew {B : Nat} {a w : World} (h : Below B a w) : Below B a w.drew := ⟨h.os, h.tape, h.output, h.size, h.block⟩

/-- The processor. -/
structure Cp where
  R : Nat → Int
  D : Int
  DF : Bool
  P : Nat
  X : Nat
  T : Int
  IE : Bool
  Q : Bool
  Op : Nat
  B : Int
  Ph : Nat
structure Cp.wf (c : Cp) : Prop where
  R : ∀ k, 0 ≤ c.R k ∧ c.R k < 65536
  D : 0 ≤ c.D ∧ c.D < 256
  P : c.P < 256
  X : c.X < 256
  T : 0 ≤ c.T ∧ c.T < 256
  Op : c.Op < 256
  B : 0 ≤ c.B ∧ c.B < 256
  Ph : c.Ph < 256
/-- What comes to it in a cycle. -/
structure Pn where
  Mode : Nat
  Data : Int
  EF : Nat → Bool
  DI : Bool
  DO : Bool
  Int_ : Bool
structure Pn.wf (p : Pn) : Prop where
  Mode : p.Mode < 256
  Data : 0 ≤ p.Data ∧ p.Data < 256
/-- What it does to the bus. -/
structure Dv where
  Code : Int
  Addr : Int
  Rd : Bool
  Wr : Bool
  Own : Bool
  Data : Int
  Port : Int
  Pulse : Bool

def cpC (c : Cp) : Array Value := #[.int .u16 (c.R 0), .int .u16 (c.R 1), .int .u16 (c.R 2), .int .u16 (c.R 3), .int .u16 (c.R 4), .int .u16 (c.R 5), .int .u16 (c.R 6), .int .u16 (c.R 7), .int .u16 (c.R 8), .int .u16 (c.R 9), .int .u16 (c.R 10), .int .u16 (c.R 11), .int .u16 (c.R 12), .int .u16 (c.R 13), .int .u16 (c.R 14), .int .u16 (c.R 15),
  .int .u8 c.D, .bool c.DF, .int .u8 (c.P : Int), .int .u8 (c.X : Int), .int .u8 c.T, .bool c.IE, .bool c.Q, .int .u8 (c.Op : Int), .int .u8 c.B, .int .u8 (c.Ph : Int)]
def pnC (p : Pn) : Array Value := #[.int .u8 (p.Mode : Int), .int .u8 p.Data, .bool (p.EF 0), .bool (p.EF 1), .bool (p.EF 2), .bool (p.EF 3), .bool p.DI, .bool p.DO, .bool p.Int_]
def dvC (d : Dv) : Array Value := #[.int .u8 d.Code, .int .u16 d.Addr, .bool d.Rd, .bool d.Wr, .bool d.Own, .int .u8 d.Data, .int .u8 d.Port, .bool d.Pulse]
def Cp.setR (c : Cp) (i : Nat) (v : Int) : Cp := { c with R := fun k => if k = i then v else c.R k }
def Cp.up (c : Cp) (i : Nat) : Cp := c.setR i ((c.R i + 1) % 65536)
def Cp.down (c : Cp) (i : Nat) : Cp := c.setR i ((c.R i - 1) % 65536)

theorem cpC_size (c : Cp) : (cpC c).size = 26 := rfl
theorem pnC_size (p : Pn) : (pnC p).size = 9 := rfl
theorem dvC_size (d : Dv) : (dvC d).size = 8 := rfl
theorem cpC_one (c : Cp) : (cpC c).all (·.oneCell') = true := by simp [cpC, Value.oneCell']
theorem dvC_one (d : Dv) : (dvC d).all (·.oneCell') = true := by simp [dvC, Value.oneCell']
theorem cpC_R (c : Cp) (i : Nat) (h : i < 16) : (cpC c)[i]? = some (.int .u16 (c.R i)) := by
  match i, h with
  | 0, _ | 1, _ | 2, _ | 3, _ | 4, _ | 5, _ | 6, _ | 7, _ | 8, _ | 9, _ | 10, _ | 11, _ | 12, _ | 13, _ | 14, _ | 15, _ => rfl
  | k + 16, h => exact absurd h (by omega)
theorem cpC_setR (c : Cp) (i : Nat) (h : i < 16) (v : Int) : (cpC c).setIfInBounds i (.int .u16 v) = cpC (c.setR i v) := by
  match i, h with
  | 0, _ | 1, _ | 2, _ | 3, _ | 4, _ | 5, _ | 6, _ | 7, _ | 8, _ | 9, _ | 10, _ | 11, _ | 12, _ | 13, _ | 14, _ | 15, _ => rfl
  | k + 16, h => exact absurd h (by omega)
theorem cpC_setD (c : Cp) (v : Int) : (cpC c).setIfInBounds 16 (.int .u8 v) = cpC { c with D := v } := rfl
theorem cpC_setDF (c : Cp) (v : Bool) : (cpC c).setIfInBounds 17 (.bool v) = cpC { c with DF := v } := rfl
theorem cpC_setP (c : Cp) (v : Nat) : (cpC c).setIfInBounds 18 (.int .u8 (v : Int)) = cpC { c with P := v } := rfl
theorem cpC_setX (c : Cp) (v : Nat) : (cpC c).setIfInBounds 19 (.int .u8 (v : Int)) = cpC { c with X := v } := rfl
theorem cpC_setT (c : Cp) (v : Int) : (cpC c).setIfInBounds 20 (.int .u8 v) = cpC { c with T := v } := rfl
theorem cpC_setIE (c : Cp) (v : Bool) : (cpC c).setIfInBounds 21 (.bool v) = cpC { c with IE := v } := rfl
theorem cpC_setQ (c : Cp) (v : Bool) : (cpC c).setIfInBounds 22 (.bool v) = cpC { c with Q := v } := rfl
theorem cpC_setOp (c : Cp) (v : Nat) : (cpC c).setIfInBounds 23 (.int .u8 (v : Int)) = cpC { c with Op := v } := rfl
theorem cpC_setB (c : Cp) (v : Int) : (cpC c).setIfInBounds 24 (.int .u8 v) = cpC { c with B := v } := rfl
theorem cpC_setPh (c : Cp) (v : Nat) : (cpC c).setIfInBounds 25 (.int .u8 (v : Int)) = cpC { c with Ph := v } := rfl

/-- A processor, pins, a drive in a box of their own. -/
def BoxC (x : World) (b : Nat) (c : Cp) : Prop := x.heap[b]? = some (.cells (cpC c) 26 (0, 0))
def BoxP (x : World) (b : Nat) (p : Pn) : Prop := x.heap[b]? = some (.cells (pnC p) 38 (0, 0))
theorem infoC : (Tryz.prog.info? 26).map (·.size) = some 26 := by kernel_rfl
theorem infoP : (Tryz.prog.info? 38).map (·.size) = some 9 := by kernel_rfl
theorem infoD : (Tryz.prog.info? 33).map (·.size) = some 8 := by kernel_rfl
theorem infoR : (Tryz.prog.info? 22).map (·.size) = some 1 := by kernel_rfl
theorem infoE : (Tryz.prog.info? 4).map (·.size) = some 1 := by kernel_rfl
theorem BoxC.r {x : World} {b : Nat} {c : Cp} (h : BoxC x b c) (i : Nat) (hi : i < 16) : x.cell? ⟨b, i, none⟩ = some (.int .u16 (c.R i)) := (cell_heap h i).trans (cpC_R c i hi)
theorem BoxC.f {x : World} {b : Nat} {c : Cp} (h : BoxC x b c) (i : Nat) (v : Value) (hv : (cpC c)[i]? = some v) : x.cell? ⟨b, i, none⟩ = some v := (cell_heap h i).trans hv
theorem BoxP.f {x : World} {b : Nat} {p : Pn} (h : BoxP x b p) (i : Nat) (v : Value) (hv : (pnC p)[i]? = some v) : x.cell? ⟨b, i, none⟩ = some v := (cell_heap h i).trans hv
theorem BoxC.fD {x : World} {b : Nat} {c : Cp} (h : BoxC x b c) : x.cell? ⟨b, 16, none⟩ = some (.int .u8 c.D) := h.f 16 _ rfl
theorem BoxC.fDF {x : World} {b : Nat} {c : Cp} (h : BoxC x b c) : x.cell? ⟨b, 17, none⟩ = some (.bool c.DF) := h.f 17 _ rfl
theorem BoxC.fP {x : World} {b : Nat} {c : Cp} (h : BoxC x b c) : x.cell? ⟨b, 18, none⟩ = some (.int .u8 (c.P : Int)) := h.f 18 _ rfl
theorem BoxC.fX {x : World} {b : Nat} {c : Cp} (h : BoxC x b c) : x.cell? ⟨b, 19, none⟩ = some (.int .u8 (c.X : Int)) := h.f 19 _ rfl
theorem BoxC.fT {x : World} {b : Nat} {c : Cp} (h : BoxC x b c) : x.cell? ⟨b, 20, none⟩ = some (.int .u8 c.T) := h.f 20 _ rfl
theorem BoxC.fIE {x : World} {b : Nat} {c : Cp} (h : BoxC x b c) : x.cell? ⟨b, 21, none⟩ = some (.bool c.IE) := h.f 21 _ rfl
theorem BoxC.fQ {x : World} {b : Nat} {c : Cp} (h : BoxC x b c) : x.cell? ⟨b, 22, none⟩ = some (.bool c.Q) := h.f 22 _ rfl
theorem BoxC.fOp {x : World} {b : Nat} {c : Cp} (h : BoxC x b c) : x.cell? ⟨b, 23, none⟩ = some (.int .u8 (c.Op : Int)) := h.f 23 _ rfl
theorem BoxC.fB {x : World} {b : Nat} {c : Cp} (h : BoxC x b c) : x.cell? ⟨b, 24, none⟩ = some (.int .u8 c.B) := h.f 24 _ rfl
theorem BoxC.fPh {x : World} {b : Nat} {c : Cp} (h : BoxC x b c) : x.cell? ⟨b, 25, none⟩ = some (.int .u8 (c.Ph : Int)) := h.f 25 _ rfl
theorem BoxP.fMode {x : World} {b : Nat} {p : Pn} (h : BoxP x b p) : x.cell? ⟨b, 0, none⟩ = some (.int .u8 (p.Mode : Int)) := h.f 0 _ rfl
theorem BoxP.fData {x : World} {b : Nat} {p : Pn} (h : BoxP x b p) : x.cell? ⟨b, 1, none⟩ = some (.int .u8 p.Data) := h.f 1 _ rfl
theorem BoxP.fDI {x : World} {b : Nat} {p : Pn} (h : BoxP x b p) : x.cell? ⟨b, 6, none⟩ = some (.bool p.DI) := h.f 6 _ rfl
theorem BoxP.fDO {x : World} {b : Nat} {p : Pn} (h : BoxP x b p) : x.cell? ⟨b, 7, none⟩ = some (.bool p.DO) := h.f 7 _ rfl
theorem BoxP.fInt {x : World} {b : Nat} {p : Pn} (h : BoxP x b p) : x.cell? ⟨b, 8, none⟩ = some (.bool p.Int_) := h.f 8 _ rfl
theorem BoxC.fz {x : World} {b : Nat} {c : Cp} (h : BoxC x b c) (i : Nat) : x.frozen? ⟨b, i, none⟩ = false := frozen_heap h i
theorem BoxC.set {x : World} {b : Nat} {c c' : Cp} (h : BoxC x b c) (i : Nat) (v : Value) (hv : (cpC c).setIfInBounds i v = cpC c') : BoxC (x.setCell ⟨b, i, none⟩ v) b c' := by
  have := heap_setCell_same x b i (cpC c) 26 v h
  rw [hv] at this
  exact this
theorem BoxC.below {x y : World} {b : Nat} {c : Cp} (h : BoxC x b c) (hb : Below x.heap.size x y) : BoxC y b c := (hb.block b (heap_lt h)).trans h
theorem BoxP.below {x y : World} {b : Nat} {p : Pn} (h : BoxP x b p) (hb : Below x.heap.size x y) : BoxP y b p := (hb.block b (heap_lt h)).trans h

/-- The whole processor out of its box. -/
theorem at_loadC {ops : Array Oper} {rest : List Oper} {o : Oper} {a : Act} {w : World} {Q : Exit → Act → World → Prop} (b : Nat) (c : Cp) (h : Hid (BoxC w b c)) (x : Operand) (hgd : o.guard = none) (ho : o.op = .load 26 x) (hx : a.eval x = .pointer (some ⟨b, 0, none⟩))
    (k : wpList Tryz.prog ops Q rest (a.put o.dst (.agg (cpC c))) w) : wpList Tryz.prog ops Q (o :: rest) a w :=
  wpList_load_row hgd 26 x ho b hx 26 (cpC c) (0, 0) _ h.out Tryz.underlying26 rfl infoC k
theorem at_loadP {ops : Array Oper} {rest : List Oper} {o : Oper} {a : Act} {w : World} {Q : Exit → Act → World → Prop} (b : Nat) (p : Pn) (h : Hid (BoxP w b p)) (x : Operand) (hgd : o.guard = none) (ho : o.op = .load 38 x) (hx : a.eval x = .pointer (some ⟨b, 0, none⟩))
    (k : wpList Tryz.prog ops Q rest (a.put o.dst (.agg (pnC p))) w) : wpList Tryz.prog ops Q (o :: rest) a w :=
  wpList_load_row hgd 38 x ho b hx 38 (pnC p) (0, 0) _ h.out Tryz.underlying38 rfl infoP k
/-- The same, where a guard lets it be. -/
theorem at_loadCg {ops : Array Oper} {rest : List Oper} {o : Oper} {a : Act} {w : World} {Q : Exit → Act → World → Prop} (b : Nat) (c : Cp) (h : Hid (BoxC w b c)) (x : Operand) (hgd : Region.wanted o (yielded ops a.tmps) = true) (ho : o.op = .load 26 x) (hx : a.eval x = .pointer (some ⟨b, 0, none⟩))
    (k : wpList Tryz.prog ops Q rest (a.put o.dst (.agg (cpC c))) w) : wpList Tryz.prog ops Q (o :: rest) a w :=
  BigFrame.wpList_want hgd fun _ hK => wp_load_row 26 x ho b hx 26 (cpC c) (0, 0) _ h.out Tryz.underlying26 rfl infoC (hK _ _ k)
/-- A whole processor into a box. -/
theorem at_storeC {ops : Array Oper} {rest : List Oper} {o : Oper} {a : Act} {w : World} {Q : Exit → Act → World → Prop} (b : Nat) (c0 c : Cp) (h : Hid (BoxC w b c0)) (x y : Operand) (hgd : o.guard = none) (ho : o.op = .store 26 x y) (hx : a.eval x = .pointer (some ⟨b, 0, none⟩)) (hy : a.eval y = .agg (cpC c))
    (k : ∀ w', Hid (BoxC w' b c ∧ (∀ B, B ≤ b → Below B w w') ∧ ∀ q, q ≠ b → w'.heap[q]? = w.heap[q]?) → wpList Tryz.prog ops Q rest (a.put o.dst undef) w') : wpList Tryz.prog ops Q (o :: rest) a w :=
  wpList_store_row hgd 26 x y ho b (cpC c) hx hy 26 (cpC c0) h.out infoC rfl (cpC_one c) (k _ ⟨setRow_heap w b _ _ 26 _ h.out, fun B hB => ⟨rfl, rfl, rfl, by simp, fun q hq => setRow_other w b q _ (by omega)⟩, fun q hq => setRow_other w b q _ hq⟩)
/-- A function that hands a processor back. -/
theorem retC {fn : Func} {R : Ending → World → Prop} {a : Act} {w : World} {p : Tmp} {b : Nat} {c : Cp} (hr : fn.results = #[.cell p 26]) (hp : a.tmps.getD p undef = .pointer (some ⟨b, 0, none⟩)) (h : BoxC w b c) (hd : a.defers = []) (hR : R (.returned (.agg (cpC c))) w) : bodyPost Tryz.prog fn R .ret a w :=
  bodyPost_ret (results_cell_row hr a.tmps w b 26 (cpC c) (0, 0) _ hp h Tryz.underlying26 rfl infoC) hd hR
theorem BoxC.new (w : World) (c : Cp) : BoxC (w.alloc (.cells (cpC c) 26)) w.heap.size c := alloc_last' w _
theorem BoxC.alloc {x : World} {b : Nat} {c : Cp} (h : BoxC x b c) (o : Obj) : BoxC (x.alloc o) b c := h.below ((Below.refl _ _).alloc (Nat.le_refl _) o)
theorem BoxC.new1 (w : World) (o : Obj) (c : Cp) : BoxC ((w.alloc o).alloc (.cells (cpC c) 26)) (w.heap.size + 1) c := by
  have h := alloc_last' (w.alloc o) (.cells (cpC c) 26)
  have e : (w.alloc o).heap.size = w.heap.size + 1 := by simp
  rw [e] at h
  exact h
theorem below1 (w : World) (o : Obj) : Below w.heap.size w (w.alloc o) := (Below.refl _ _).alloc (Nat.le_refl _) _
theorem below2 (w : World) (o p : Obj) : Below w.heap.size w ((w.alloc o).alloc p) := (below1 w o).alloc (below1 w o).size _
def zeroC : Cp := ⟨fun _ => 0, 0, false, 0, 0, 0, false, false, 0, 0, 0⟩
theorem zeroVC (w : World) : (zeroValue 26).run Tryz.prog w = .ok (.agg (cpC zeroC)) w := by kernel_rfl
end Go.Proofs.YtbeeefekndcgnaaGreatDoor
