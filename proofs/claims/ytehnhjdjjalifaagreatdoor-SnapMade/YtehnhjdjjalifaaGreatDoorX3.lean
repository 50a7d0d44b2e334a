/- A machine in memory. -/
import Derived.Test.YtehnhjdjjalifaaGreatDoorX2
namespace Go.Proofs.YtehnhjdjjalifaaGreatDoor
open Go Go.RowKit
set_option linter.unusedVariables false
set_option maxHeartbeats 2000000
set_option maxRecDepth 100000

/-- A processor's cells, a raster's, a machine's. -/
def cCs (s : Bd) : Array Value := #[.int .u16 ((s.r.getD 0 0 : Nat) : Int), .int .u16 ((s.r.getD 1 0 : Nat) : Int), .int .u16 ((s.r.getD 2 0 : Nat) : Int), .int .u16 ((s.r.getD 3 0 : Nat) : Int), .int .u16 ((s.r.getD 4 0 : Nat) : Int), .int .u16 ((s.r.getD 5 0 : Nat) : Int), .int .u16 ((s.r.getD 6 0 : Nat) : Int), .int .u16 ((s.r.getD 7 0 : Nat) : Int), .int .u16 ((s.r.getD 8 0 : Nat) : Int), .int .u16 ((s.r.getD 9 0 : Nat) : Int), .int .u16 ((s.r.getD 10 0 : Nat) : Int), .int .u16 ((s.r.getD 11 0 : Nat) : Int), .int .u16 ((s.r.getD 12 0 : Nat) : Int), .int .u16 ((s.r.getD 13 0 : Nat) : Int), .int .u16 ((s.r.getD 14 0 : Nat) : Int), .int .u16 ((s.r.getD 15 0 : Nat) : Int), byV s.d, .bool s.df, byV s.p, byV s.x, byV s.t, .bool s.ie, .bool s.q, byV s.op, byV s.b, byV s.ph]
def rCs (s : Bd) : Array Value := #[.int .i64 s.ln, .int .i64 s.cy, .bool s.on, .int .i64 s.gt]
def bCs (s : Bd) (vR vO : Value) : Array Value := #[.int .u16 ((s.r.getD 0 0 : Nat) : Int), .int .u16 ((s.r.getD 1 0 : Nat) : Int), .int .u16 ((s.r.getD 2 0 : Nat) : Int), .int .u16 ((s.r.getD 3 0 : Nat) : Int), .int .u16 ((s.r.getD 4 0 : Nat) : Int), .int .u16 ((s.r.getD 5 0 : Nat) : Int), .int .u16 ((s.r.getD 6 0 : Nat) : Int), .int .u16 ((s.r.getD 7 0 : Nat) : Int), .int .u16 ((s.r.getD 8 0 : Nat) : Int), .int .u16 ((s.r.getD 9 0 : Nat) : Int), .int .u16 ((s.r.getD 10 0 : Nat) : Int), .int .u16 ((s.r.getD 11 0 : Nat) : Int), .int .u16 ((s.r.getD 12 0 : Nat) : Int), .int .u16 ((s.r.getD 13 0 : Nat) : Int), .int .u16 ((s.r.getD 14 0 : Nat) : Int), .int .u16 ((s.r.getD 15 0 : Nat) : Int), byV s.d, .bool s.df, byV s.p, byV s.x, byV s.t, .bool s.ie, .bool s.q, byV s.op, byV s.b, byV s.ph, .int .i64 s.ln, .int .i64 s.cy, .bool s.on, .int .i64 s.gt, byV s.pd, .bool s.lt, vR, vO, .int .u64 ((s.cc : Nat) : Int)]
theorem rtBd : Rt Tryz.prog 34 35 := ⟨⟨_, Tryz.underlying34, rfl⟩, by kernel_rfl⟩
theorem rtCp : Rt Tryz.prog 26 26 := ⟨⟨_, Tryz.underlying26, rfl⟩, by kernel_rfl⟩
theorem rtRa : Rt Tryz.prog 28 4 := ⟨⟨_, Tryz.underlying28, rfl⟩, by kernel_rfl⟩
/-- A machine that lies in memory. -/
structure BL (w : World) (C : Array Value) (s : Bd) : Prop where
  c : ∃ sR cR sO cO, C = bCs s (.slice sR s.ram.length cR) (.slice sO s.rom.length cO) ∧ LB w sR s.ram ∧ LB w sO s.rom
  ok : s.Ok
  ln : -9223372036854775808 ≤ s.ln ∧ s.ln ≤ 9223372036854775807
  cy : -9223372036854775808 ≤ s.cy ∧ s.cy ≤ 9223372036854775807
  gt : -9223372036854775808 ≤ s.gt ∧ s.gt ≤ 9223372036854775807
theorem BL.below {w y : World} {C : Array Value} {s : Bd} (h : BL w C s) (hb : Below w.heap.size w y) : BL y C s := by
  obtain ⟨⟨sR, cR, sO, cO, e, h1, h2⟩, a, b, c, d⟩ := h
  exact ⟨⟨sR, cR, sO, cO, e, h1.below hb, h2.below hb⟩, a, b, c, d⟩
theorem BL.size {w : World} {C : Array Value} {s : Bd} (h : BL w C s) : C.size = 35 := by
  obtain ⟨⟨sR, cR, sO, cO, rfl, _⟩, _⟩ := h
  rfl
theorem cCs_one (s : Bd) : (cCs s).all (·.oneCell') = true := by kernel_rfl
theorem rCs_one (s : Bd) : (rCs s).all (·.oneCell') = true := by kernel_rfl
theorem mid_c {y : World} {b : Nat} {s : Bd} {vR vO : Value} (h : Bx y b (bCs s vR vO) 34) : y.rangeAt b 0 (cCs s).toList := fun k v hv => by
  have hk : k < 26 := (List.getElem?_eq_some_iff.1 hv).1
  refine h.c (0 + k) v ?_
  rw [Nat.zero_add, ← hv]
  rcases (show k = 0 ∨ k = 1 ∨ k = 2 ∨ k = 3 ∨ k = 4 ∨ k = 5 ∨ k = 6 ∨ k = 7 ∨ k = 8 ∨ k = 9 ∨ k = 10 ∨ k = 11 ∨ k = 12 ∨ k = 13 ∨ k = 14 ∨ k = 15 ∨ k = 16 ∨ k = 17 ∨ k = 18 ∨ k = 19 ∨ k = 20 ∨ k = 21 ∨ k = 22 ∨ k = 23 ∨ k = 24 ∨ k = 25 by omega) with rfl | rfl | rfl | rfl | rfl | rfl | rfl | rfl | rfl | rfl | rfl | rfl | rfl | rfl | rfl | rfl | rfl | rfl | rfl | rfl | rfl | rfl | rfl | rfl | rfl | rfl <;> rfl
theorem mid_r {y : World} {b : Nat} {s : Bd} {vR vO : Value} (h : Bx y b (bCs s vR vO) 34) : y.rangeAt b 26 (rCs s).toList := fun k v hv => by
  have hk : k < 4 := (List.getElem?_eq_some_iff.1 hv).1
  refine h.c (26 + k) v ?_
  rw [← hv]
  rcases (show k = 0 ∨ k = 1 ∨ k = 2 ∨ k = 3 by omega) with rfl | rfl | rfl | rfl <;> rfl
theorem infoBz : (Tryz.prog.info? 5).map (fun i => (i.zero, i.size)) = some (some (.int .u8 0), 1) := by kernel_rfl
theorem lb_row {w : World} {g : Nat} {l : List UInt8} (h : Bx w g (rowB l) 5) : LB w (some ⟨g, 0, none⟩) l := fun j a hj => by
  have hjl := (List.getElem?_eq_some_iff.1 hj).1
  refine ⟨g, 0, rfl, fun i v hv => ?_⟩
  have hi : i < 1 := (List.getElem?_eq_some_iff.1 hv).1
  obtain rfl : i = 0 := by omega
  refine h.c (0 + j * 1 + 0) v ?_
  rw [show 0 + j * 1 + 0 = j by omega, rowB_get l j hjl]
  have e : l.getD j 0 = a := by rw [List.getD_eq_getElem?_getD, hj]; rfl
  rw [e, ← hv]
  rfl
theorem fillB4 (b0 b1 b2 b3 : UInt8) : Instr.fill (fun i => some (i * 1, 1)) ((Array.range (4 * 1)).map ((Value.int IntKind.u8 0).cells[· % (Value.int IntKind.u8 0).cells.size]!)) [(0, byV b0), (1, byV b1), (2, byV b2), (3, byV b3)] = some (rowB [b0, b1, b2, b3]) := by kernel_rfl
theorem at_bsB4 {ops : Array Oper} {rest : List Oper} {o : Oper} {a : Act} {w : World} {Q : Exit → Act → World → Prop} (b0 b1 b2 b3 : UInt8) (x0 x1 x2 x3 : Operand) (hgd : o.guard = none) (ho : o.op = .buildSlice 31 4 #[(0, x0), (1, x1), (2, x2), (3, x3)]) (h0 : a.eval x0 = byV b0) (h1 : a.eval x1 = byV b1) (h2 : a.eval x2 = byV b2) (h3 : a.eval x3 = byV b3)
    (k : wpList Tryz.prog ops Q rest (a.put o.dst (.slice (some ⟨w.heap.size, 0, none⟩) 4 4)) (w.alloc (.cells (rowB [b0, b1, b2, b3]) 5))) : wpList Tryz.prog ops Q (o :: rest) a w := by
  obtain ⟨i, hi, e⟩ := Option.map_eq_some_iff.1 infoBz
  injection e with e1 e2
  refine wpList_buildSlice hgd 31 5 4 #[(0, x0), (1, x1), (2, x2), (3, x3)] ho (rowB [b0, b1, b2, b3]) i _ Tryz.underlying31 hi e1 (by rw [e2]; decide) (by rw [e2]; decide) ?_ k
  rw [e2]
  have e : (#[(0, x0), (1, x1), (2, x2), (3, x3)].map fun (i, x) => (i, a.eval x)).toList = [(0, byV b0), (1, byV b1), (2, byV b2), (3, byV b3)] := by simp [h0, h1, h2, h3]
  rw [e]
  exact fillB4 b0 b1 b2 b3
theorem fillB5 (b0 b1 b2 b3 b4 : UInt8) : Instr.fill (fun i => some (i * 1, 1)) ((Array.range (5 * 1)).map ((Value.int IntKind.u8 0).cells[· % (Value.int IntKind.u8 0).cells.size]!)) [(0, byV b0), (1, byV b1), (2, byV b2), (3, byV b3), (4, byV b4)] = some (rowB [b0, b1, b2, b3, b4]) := by kernel_rfl
theorem at_bsB5 {ops : Array Oper} {rest : List Oper} {o : Oper} {a : Act} {w : World} {Q : Exit → Act → World → Prop} (b0 b1 b2 b3 b4 : UInt8) (x0 x1 x2 x3 x4 : Operand) (hgd : o.guard = none) (ho : o.op = .buildSlice 31 5 #[(0, x0), (1, x1), (2, x2), (3, x3), (4, x4)]) (h0 : a.eval x0 = byV b0) (h1 : a.eval x1 = byV b1) (h2 : a.eval x2 = byV b2) (h3 : a.eval x3 = byV b3) (h4 : a.eval x4 = byV b4)
    (k : wpList Tryz.prog ops Q rest (a.put o.dst (.slice (some ⟨w.heap.size, 0, none⟩) 5 5)) (w.alloc (.cells (rowB [b0, b1, b2, b3, b4]) 5))) : wpList Tryz.prog ops Q (o :: rest) a w := by
  obtain ⟨i, hi, e⟩ := Option.map_eq_some_iff.1 infoBz
  injection e with e1 e2
  refine wpList_buildSlice hgd 31 5 5 #[(0, x0), (1, x1), (2, x2), (3, x3), (4, x4)] ho (rowB [b0, b1, b2, b3, b4]) i _ Tryz.underlying31 hi e1 (by rw [e2]; decide) (by rw [e2]; decide) ?_ k
  rw [e2]
  have e : (#[(0, x0), (1, x1), (2, x2), (3, x3), (4, x4)].map fun (i, x) => (i, a.eval x)).toList = [(0, byV b0), (1, byV b1), (2, byV b2), (3, byV b3), (4, byV b4)] := by simp [h0, h1, h2, h3, h4]
  rw [e]
  exact fillB5 b0 b1 b2 b3 b4
theorem fillB10 (b0 b1 b2 b3 b4 b5 b6 b7 b8 b9 : UInt8) : Instr.fill (fun i => some (i * 1, 1)) ((Array.range (10 * 1)).map ((Value.int IntKind.u8 0).cells[· % (Value.int IntKind.u8 0).cells.size]!)) [(0, byV b0), (1, byV b1), (2, byV b2), (3, byV b3), (4, byV b4), (5, byV b5), (6, byV b6), (7, byV b7), (8, byV b8), (9, byV b9)] = some (rowB [b0, b1, b2, b3, b4, b5, b6, b7, b8, b9]) := by kernel_rfl
theorem at_bsB10 {ops : Array Oper} {rest : List Oper} {o : Oper} {a : Act} {w : World} {Q : Exit → Act → World → Prop} (b0 b1 b2 b3 b4 b5 b6 b7 b8 b9 : UInt8) (x0 x1 x2 x3 x4 x5 x6 x7 x8 x9 : Operand) (hgd : o.guard = none) (ho : o.op = .buildSlice 31 10 #[(0, x0), (1, x1), (2, x2), (3, x3), (4, x4), (5, x5), (6, x6), (7, x7), (8, x8), (9, x9)]) (h0 : a.eval x0 = byV b0) (h1 : a.eval x1 = byV b1) (h2 : a.eval x2 = byV b2) (h3 : a.eval x3 = byV b3) (h4 : a.eval x4 = byV b4) (h5 : a.eval x5 = byV b5) (h6 : a.eval x6 = byV b6) (h7 : a.eval x7 = byV b7) (h8 : a.eval x8 = byV b8) (h9 : a.eval x9 = byV b9)
    (k : wpList Tryz.prog ops Q rest (a.put o.dst (.slice (some ⟨w.heap.size, 0, none⟩) 10 10)) (w.alloc (.cells (rowB [b0, b1, b2, b3, b4, b5, b6, b7, b8, b9]) 5))) : wpList Tryz.prog ops Q (o :: rest) a w := by
  obtain ⟨i, hi, e⟩ := Option.map_eq_some_iff.1 infoBz
  injection e with e1 e2
  refine wpList_buildSlice hgd 31 5 10 #[(0, x0), (1, x1), (2, x2), (3, x3), (4, x4), (5, x5), (6, x6), (7, x7), (8, x8), (9, x9)] ho (rowB [b0, b1, b2, b3, b4, b5, b6, b7, b8, b9]) i _ Tryz.underlying31 hi e1 (by rw [e2]; decide) (by rw [e2]; decide) ?_ k
  rw [e2]
  have e : (#[(0, x0), (1, x1), (2, x2), (3, x3), (4, x4), (5, x5), (6, x6), (7, x7), (8, x8), (9, x9)].map fun (i, x) => (i, a.eval x)).toList = [(0, byV b0), (1, byV b1), (2, byV b2), (3, byV b3), (4, byV b4), (5, byV b5), (6, byV b6), (7, byV b7), (8, byV b8), (9, byV b9)] := by simp [h0, h1, h2, h3, h4, h5, h6, h7, h8, h9]
  rw [e]
  exact fillB10 b0 b1 b2 b3 b4 b5 b6 b7 b8 b9
/-- Saving under way: the three boxes, and the bytes so far. -/
structure SvK (w : World) (B b1 b2 : Nat) (C : Array Value) (s : Bd) (v : Value) (l : List UInt8) (y : World) : Prop where
  x0 : Bx y w.heap.size C 34
  x1 : Bx y b1 (cCs s) 26
  x2 : Bx y b2 (rCs s) 28
  low : Below w.heap.size w y
  own : OwnL 5 1 cB B y v l
  bs : w.heap.size < B ∧ b1 < B ∧ b2 < B ∧ B ≤ y.heap.size
theorem SvK.go {w : World} {B b1 b2 : Nat} {C : Array Value} {s : Bd} {v v' : Value} {l l' : List UInt8} {y z : World} (h : SvK w B b1 b2 C s v l y) (ho : OwnL 5 1 cB B z v' l') (hb : Below B y z) : SvK w B b1 b2 C s v' l' z :=
  ⟨(hb.block _ h.bs.1).trans h.x0, (hb.block _ h.bs.2.1).trans h.x1, (hb.block _ h.bs.2.2.1).trans h.x2, h.low.trans (hb.mono (Nat.le_of_lt h.bs.1)), ho, h.bs.1, h.bs.2.1, h.bs.2.2.1, Nat.le_trans h.bs.2.2.2 hb.size⟩
theorem SvK.below {w : World} {B b1 b2 : Nat} {C : Array Value} {s : Bd} {v : Value} {l : List UInt8} {y z : World} (h : SvK w B b1 b2 C s v l y) (hb : Below y.heap.size y z) : SvK w B b1 b2 C s v l z := h.go (h.own.below hb) (hb.mono h.bs.2.2.2)
theorem SvK.drew {w : World} {B b1 b2 : Nat} {C : Array Value} {s : Bd} {v : Value} {l : List UInt8} {y : World} (h : SvK w B b1 b2 C s v l y) : SvK w B b1 b2 C s v l y.drew := h.below ⟨rfl, rfl, rfl, Nat.le_refl _, fun _ _ => rfl⟩
end Go.Proofs.YtehnhjdjjalifaaGreatDoor
