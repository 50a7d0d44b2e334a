/- A processor, and pins, that came in as arguments, opened. -/
import Derived.Test.YtbeeefekndcgnaaGreatDoorCp
import Derived.WalkKit
import Derived.ProofKit
import Derived.OpenShut
import Derived.ChangeArms
import Derived.ChangeShapes
namespace Go.Proofs.YtbeeefekndcgnaaGreatDoor
open Go Go.RowKit Go.ChangeShapes Go.WideShapes
set_option linter.unusedVariables false
set_option maxHeartbeats 1000000

theorem wf_u8 {z : Int} (h : (Lit.int .u8 z).wf = true) : 0 ≤ z ∧ z < 256 := by
  have a : IntKind.min .u8 = 0 := by decide
  have b : IntKind.max .u8 = 255 := by decide
  simp only [Lit.wf, a, b, Bool.and_eq_true, decide_eq_true_eq] at h
  omega
theorem wf_u16 {z : Int} (h : (Lit.int .u16 z).wf = true) : 0 ≤ z ∧ z < 65536 := by
  have a : IntKind.min .u16 = 0 := by decide
  have b : IntKind.max .u16 = 65535 := by decide
  simp only [Lit.wf, a, b, Bool.and_eq_true, decide_eq_true_eq] at h
  omega
theorem list26 {α : Type} {l : List α} (h : l.length = 26) : ∃ a0 a1 a2 a3 a4 a5 a6 a7 a8 a9 a10 a11 a12 a13 a14 a15 a16 a17 a18 a19 a20 a21 a22 a23 a24 a25, l = [a0, a1, a2, a3, a4, a5, a6, a7, a8, a9, a10, a11, a12, a13, a14, a15, a16, a17, a18, a19, a20, a21, a22, a23, a24, a25] := by
  match l, h with
  | [a0, a1, a2, a3, a4, a5, a6, a7, a8, a9, a10, a11, a12, a13, a14, a15, a16, a17, a18, a19, a20, a21, a22, a23, a24, a25], _ => exact ⟨a0, a1, a2, a3, a4, a5, a6, a7, a8, a9, a10, a11, a12, a13, a14, a15, a16, a17, a18, a19, a20, a21, a22, a23, a24, a25, rfl⟩
theorem list9 {α : Type} {l : List α} (h : l.length = 9) : ∃ a0 a1 a2 a3 a4 a5 a6 a7 a8, l = [a0, a1, a2, a3, a4, a5, a6, a7, a8] := by
  match l, h with
  | [a0, a1, a2, a3, a4, a5, a6, a7, a8], _ => exact ⟨a0, a1, a2, a3, a4, a5, a6, a7, a8, rfl⟩
theorem list16 {α : Type} {l : List α} (h : l.length = 16) : ∃ a0 a1 a2 a3 a4 a5 a6 a7 a8 a9 a10 a11 a12 a13 a14 a15, l = [a0, a1, a2, a3, a4, a5, a6, a7, a8, a9, a10, a11, a12, a13, a14, a15] := by
  match l, h with
  | [a0, a1, a2, a3, a4, a5, a6, a7, a8, a9, a10, a11, a12, a13, a14, a15], _ => exact ⟨a0, a1, a2, a3, a4, a5, a6, a7, a8, a9, a10, a11, a12, a13, a14, a15, rfl⟩
theorem list4 {α : Type} {l : List α} (h : l.length = 4) : ∃ a0 a1 a2 a3, l = [a0, a1, a2, a3] := by
  match l, h with
  | [a0, a1, a2, a3], _ => exact ⟨a0, a1, a2, a3, rfl⟩
theorem some_of {α : Type} {l : List α} {k i : Nat} (h : l.length = k) (hi : i < k) : ∃ y, l[i]? = some y := ⟨_, List.getElem?_eq_getElem (by omega)⟩
theorem openR {H : Type} {enc : TypeId × Value → H} {w : World} {m : Nat} {cs : List Value} {x : DataW H × List MemPlace} (h : DataW.trod enc Tryz.prog w 0 (fun _ => true) true m 23 cs = some x) : ∃ R : Nat → Int, (∀ k, 0 ≤ R k ∧ R k < 65536) ∧ cs = [.int .u16 (R 0), .int .u16 (R 1), .int .u16 (R 2), .int .u16 (R 3), .int .u16 (R 4), .int .u16 (R 5), .int .u16 (R 6), .int .u16 (R 7), .int .u16 (R 8), .int .u16 (R 9), .int .u16 (R 10), .int .u16 (R 11), .int .u16 (R 12), .int .u16 (R 13), .int .u16 (R 14), .int .u16 (R 15)] := by
  obtain ⟨xs, n, _, rfl, hl, hxl, hf⟩ := DataW.trod_array Tryz.underlying23 h
  have k1 : Tryz.prog.cellsOf 22 = 1 := by kernel_rfl
  obtain ⟨a0, a1, a2, a3, a4, a5, a6, a7, a8, a9, a10, a11, a12, a13, a14, a15, rfl⟩ := list16 (hl.trans (by kernel_rfl))
  obtain ⟨y0, e0⟩ := some_of hxl (show 0 < 16 by decide)
  have g0 := (hf 0 (by decide)).trans e0
  simp [k1] at g0
  obtain ⟨z0, q0, _, w0⟩ := DataW.trod_int Tryz.underlying22 g0
  simp at q0
  obtain ⟨y1, e1⟩ := some_of hxl (show 1 < 16 by decide)
  have g1 := (hf 1 (by decide)).trans e1
  simp [k1] at g1
  obtain ⟨z1, q1, _, w1⟩ := DataW.trod_int Tryz.underlying22 g1
  simp at q1
  obtain ⟨y2, e2⟩ := some_of hxl (show 2 < 16 by decide)
  have g2 := (hf 2 (by decide)).trans e2
  simp [k1] at g2
  obtain ⟨z2, q2, _, w2⟩ := DataW.trod_int Tryz.underlying22 g2
  simp at q2
  obtain ⟨y3, e3⟩ := some_of hxl (show 3 < 16 by decide)
  have g3 := (hf 3 (by decide)).trans e3
  simp [k1] at g3
  obtain ⟨z3, q3, _, w3⟩ := DataW.trod_int Tryz.underlying22 g3
  simp at q3
  obtain ⟨y4, e4⟩ := some_of hxl (show 4 < 16 by decide)
  have g4 := (hf 4 (by decide)).trans e4
  simp [k1] at g4
  obtain ⟨z4, q4, _, w4⟩ := DataW.trod_int Tryz.underlying22 g4
  simp at q4
  obtain ⟨y5, e5⟩ := some_of hxl (show 5 < 16 by decide)
  have g5 := (hf 5 (by decide)).trans e5
  simp [k1] at g5
  obtain ⟨z5, q5, _, w5⟩ := DataW.trod_int Tryz.underlying22 g5
  simp at q5
  obtain ⟨y6, e6⟩ := some_of hxl (show 6 < 16 by decide)
  have g6 := (hf 6 (by decide)).trans e6
  simp [k1] at g6
  obtain ⟨z6, q6, _, w6⟩ := DataW.trod_int Tryz.underlying22 g6
  simp at q6
  obtain ⟨y7, e7⟩ := some_of hxl (show 7 < 16 by decide)
  have g7 := (hf 7 (by decide)).trans e7
  simp [k1] at g7
  obtain ⟨z7, q7, _, w7⟩ := DataW.trod_int Tryz.underlying22 g7
  simp at q7
  obtain ⟨y8, e8⟩ := some_of hxl (show 8 < 16 by decide)
  have g8 := (hf 8 (by decide)).trans e8
  simp [k1] at g8
  obtain ⟨z8, q8, _, w8⟩ := DataW.trod_int Tryz.underlying22 g8
  simp at q8
  obtain ⟨y9, e9⟩ := some_of hxl (show 9 < 16 by decide)
  have g9 := (hf 9 (by decide)).trans e9
  simp [k1] at g9
  obtain ⟨z9, q9, _, w9⟩ := DataW.trod_int Tryz.underlying22 g9
  simp at q9
  obtain ⟨y10, e10⟩ := some_of hxl (show 10 < 16 by decide)
  have g10 := (hf 10 (by decide)).trans e10
  simp [k1] at g10
  obtain ⟨z10, q10, _, w10⟩ := DataW.trod_int Tryz.underlying22 g10
  simp at q10
  obtain ⟨y11, e11⟩ := some_of hxl (show 11 < 16 by decide)
  have g11 := (hf 11 (by decide)).trans e11
  simp [k1] at g11
  obtain ⟨z11, q11, _, w11⟩ := DataW.trod_int Tryz.underlying22 g11
  simp at q11
  obtain ⟨y12, e12⟩ := some_of hxl (show 12 < 16 by decide)
  have g12 := (hf 12 (by decide)).trans e12
  simp [k1] at g12
  obtain ⟨z12, q12, _, w12⟩ := DataW.trod_int Tryz.underlying22 g12
  simp at q12
  obtain ⟨y13, e13⟩ := some_of hxl (show 13 < 16 by decide)
  have g13 := (hf 13 (by decide)).trans e13
  simp [k1] at g13
  obtain ⟨z13, q13, _, w13⟩ := DataW.trod_int Tryz.underlying22 g13
  simp at q13
  obtain ⟨y14, e14⟩ := some_of hxl (show 14 < 16 by decide)
  have g14 := (hf 14 (by decide)).trans e14
  simp [k1] at g14
  obtain ⟨z14, q14, _, w14⟩ := DataW.trod_int Tryz.underlying22 g14
  simp at q14
  obtain ⟨y15, e15⟩ := some_of hxl (show 15 < 16 by decide)
  have g15 := (hf 15 (by decide)).trans e15
  simp [k1] at g15
  obtain ⟨z15, q15, _, w15⟩ := DataW.trod_int Tryz.underlying22 g15
  simp at q15
  refine ⟨fun k => match k with | 0 => z0 | 1 => z1 | 2 => z2 | 3 => z3 | 4 => z4 | 5 => z5 | 6 => z6 | 7 => z7 | 8 => z8 | 9 => z9 | 10 => z10 | 11 => z11 | 12 => z12 | 13 => z13 | 14 => z14 | 15 => z15 | _ => 0, fun k => ?_, by simp [q0, q1, q2, q3, q4, q5, q6, q7, q8, q9, q10, q11, q12, q13, q14, q15]⟩
  match k with
  | 0 => exact wf_u16 w0
  | 1 => exact wf_u16 w1
  | 2 => exact wf_u16 w2
  | 3 => exact wf_u16 w3
  | 4 => exact wf_u16 w4
  | 5 => exact wf_u16 w5
  | 6 => exact wf_u16 w6
  | 7 => exact wf_u16 w7
  | 8 => exact wf_u16 w8
  | 9 => exact wf_u16 w9
  | 10 => exact wf_u16 w10
  | 11 => exact wf_u16 w11
  | 12 => exact wf_u16 w12
  | 13 => exact wf_u16 w13
  | 14 => exact wf_u16 w14
  | 15 => exact wf_u16 w15
  | k + 16 => exact ⟨(by show (0 : Int) ≤ 0; decide), (by show (0 : Int) < 65536; decide)⟩
theorem openE {H : Type} {enc : TypeId × Value → H} {w : World} {m : Nat} {cs : List Value} {x : DataW H × List MemPlace} (h : DataW.trod enc Tryz.prog w 0 (fun _ => true) true m 36 cs = some x) : ∃ E : Nat → Bool, cs = [.bool (E 0), .bool (E 1), .bool (E 2), .bool (E 3)] := by
  obtain ⟨xs, n, _, rfl, hl, hxl, hf⟩ := DataW.trod_array Tryz.underlying36 h
  have k1 : Tryz.prog.cellsOf 4 = 1 := by kernel_rfl
  obtain ⟨a0, a1, a2, a3, rfl⟩ := list4 (hl.trans (by kernel_rfl))
  obtain ⟨y0, e0⟩ := some_of hxl (show 0 < 4 by decide)
  have g0 := (hf 0 (by decide)).trans e0
  simp [k1] at g0
  obtain ⟨z0, q0, _⟩ := DataW.trod_bool Tryz.underlying4 g0
  simp at q0
  obtain ⟨y1, e1⟩ := some_of hxl (show 1 < 4 by decide)
  have g1 := (hf 1 (by decide)).trans e1
  simp [k1] at g1
  obtain ⟨z1, q1, _⟩ := DataW.trod_bool Tryz.underlying4 g1
  simp at q1
  obtain ⟨y2, e2⟩ := some_of hxl (show 2 < 4 by decide)
  have g2 := (hf 2 (by decide)).trans e2
  simp [k1] at g2
  obtain ⟨z2, q2, _⟩ := DataW.trod_bool Tryz.underlying4 g2
  simp at q2
  obtain ⟨y3, e3⟩ := some_of hxl (show 3 < 4 by decide)
  have g3 := (hf 3 (by decide)).trans e3
  simp [k1] at g3
  obtain ⟨z3, q3, _⟩ := DataW.trod_bool Tryz.underlying4 g3
  simp at q3
  exact ⟨fun k => match k with | 0 => z0 | 1 => z1 | 2 => z2 | _ => z3, by simp [q0, q1, q2, q3]⟩
theorem openC {H : Type} {enc : TypeId × Value → H} {w : World} {m : Nat} {cs : List Value} {x : DataW H × List MemPlace} (h : DataW.trod enc Tryz.prog w 0 (fun _ => true) true m 26 cs = some x) : ∃ c : Cp, c.wf ∧ cs = (cpC c).toList := by
  obtain ⟨xs, n, _, rfl, hl, hxl, hf⟩ := DataW.trod_struct Tryz.underlying26 h
  have ka : Tryz.prog.cellsOf 23 = 16 := by kernel_rfl
  have kb : Tryz.prog.cellsOf 5 = 1 := by kernel_rfl
  have kd : Tryz.prog.cellsOf 4 = 1 := by kernel_rfl
  have ke : Tryz.prog.cellsOf 24 = 1 := by kernel_rfl
  obtain ⟨c0, c1, c2, c3, c4, c5, c6, c7, c8, c9, c10, c11, c12, c13, c14, c15, c16, c17, c18, c19, c20, c21, c22, c23, c24, c25, rfl⟩ := list26 (hl.trans (by kernel_rfl))
  have hxl' : xs.length = 11 := hxl
  obtain ⟨y0, e0⟩ := some_of hxl' (show 0 < 11 by decide)
  have g0 := (hf 0 _ rfl).trans e0
  simp [ka] at g0
  obtain ⟨R, hR, q0⟩ := openR g0
  simp at q0
  obtain ⟨y1, e1⟩ := some_of hxl' (show 1 < 11 by decide)
  have g1 := (hf 1 _ rfl).trans e1
  simp [kb] at g1
  obtain ⟨z1, q1, _, w1⟩ := DataW.trod_int Tryz.underlying5 g1
  simp at q1
  have b1 := wf_u8 w1
  obtain ⟨y2, e2⟩ := some_of hxl' (show 2 < 11 by decide)
  have g2 := (hf 2 _ rfl).trans e2
  simp [kd] at g2
  obtain ⟨z2, q2, _⟩ := DataW.trod_bool Tryz.underlying4 g2
  simp at q2
  obtain ⟨y3, e3⟩ := some_of hxl' (show 3 < 11 by decide)
  have g3 := (hf 3 _ rfl).trans e3
  simp [kb] at g3
  obtain ⟨z3, q3, _, w3⟩ := DataW.trod_int Tryz.underlying5 g3
  simp at q3
  have b3 := wf_u8 w3
  obtain ⟨y4, e4⟩ := some_of hxl' (show 4 < 11 by decide)
  have g4 := (hf 4 _ rfl).trans e4
  simp [kb] at g4
  obtain ⟨z4, q4, _, w4⟩ := DataW.trod_int Tryz.underlying5 g4
  simp at q4
  have b4 := wf_u8 w4
  obtain ⟨y5, e5⟩ := some_of hxl' (show 5 < 11 by decide)
  have g5 := (hf 5 _ rfl).trans e5
  simp [kb] at g5
  obtain ⟨z5, q5, _, w5⟩ := DataW.trod_int Tryz.underlying5 g5
  simp at q5
  have b5 := wf_u8 w5
  obtain ⟨y6, e6⟩ := some_of hxl' (show 6 < 11 by decide)
  have g6 := (hf 6 _ rfl).trans e6
  simp [kd] at g6
  obtain ⟨z6, q6, _⟩ := DataW.trod_bool Tryz.underlying4 g6
  simp at q6
  obtain ⟨y7, e7⟩ := some_of hxl' (show 7 < 11 by decide)
  have g7 := (hf 7 _ rfl).trans e7
  simp [kd] at g7
  obtain ⟨z7, q7, _⟩ := DataW.trod_bool Tryz.underlying4 g7
  simp at q7
  obtain ⟨y8, e8⟩ := some_of hxl' (show 8 < 11 by decide)
  have g8 := (hf 8 _ rfl).trans e8
  simp [kb] at g8
  obtain ⟨z8, q8, _, w8⟩ := DataW.trod_int Tryz.underlying5 g8
  simp at q8
  have b8 := wf_u8 w8
  obtain ⟨y9, e9⟩ := some_of hxl' (show 9 < 11 by decide)
  have g9 := (hf 9 _ rfl).trans e9
  simp [kb] at g9
  obtain ⟨z9, q9, _, w9⟩ := DataW.trod_int Tryz.underlying5 g9
  simp at q9
  have b9 := wf_u8 w9
  obtain ⟨y10, e10⟩ := some_of hxl' (show 10 < 11 by decide)
  have g10 := (hf 10 _ rfl).trans e10
  simp [ke] at g10
  obtain ⟨z10, q10, _, w10⟩ := DataW.trod_int Tryz.underlying24 g10
  simp at q10
  have b10 := wf_u8 w10
  refine ⟨⟨R, z1, z2, z3.toNat, z4.toNat, z5, z6, z7, z8.toNat, z9, z10.toNat⟩, ⟨hR, b1, by show z3.toNat < 256; omega, by show z4.toNat < 256; omega, b5, by show z8.toNat < 256; omega, b9, by show z10.toNat < 256; omega⟩, ?_⟩
  have t3 : ((z3.toNat : Nat) : Int) = z3 := by omega
  have t4 : ((z4.toNat : Nat) : Int) = z4 := by omega
  have t8 : ((z8.toNat : Nat) : Int) = z8 := by omega
  have t10 : ((z10.toNat : Nat) : Int) = z10 := by omega
  simp [cpC, t3, t4, t8, t10, q0, q1, q2, q3, q4, q5, q6, q7, q8, q9, q10]
theorem openP {H : Type} {enc : TypeId × Value → H} {w : World} {m : Nat} {cs : List Value} {x : DataW H × List MemPlace} (h : DataW.trod enc Tryz.prog w 0 (fun _ => true) true m 38 cs = some x) : ∃ p : Pn, p.wf ∧ cs = (pnC p).toList := by
  obtain ⟨xs, n, _, rfl, hl, hxl, hf⟩ := DataW.trod_struct Tryz.underlying38 h
  have ka : Tryz.prog.cellsOf 31 = 1 := by kernel_rfl
  have kb : Tryz.prog.cellsOf 5 = 1 := by kernel_rfl
  have kd : Tryz.prog.cellsOf 4 = 1 := by kernel_rfl
  have ke : Tryz.prog.cellsOf 36 = 4 := by kernel_rfl
  obtain ⟨c0, c1, c2, c3, c4, c5, c6, c7, c8, rfl⟩ := list9 (hl.trans (by kernel_rfl))
  have hxl' : xs.length = 6 := hxl
  obtain ⟨y0, e0⟩ := some_of hxl' (show 0 < 6 by decide)
  have g0 := (hf 0 _ rfl).trans e0
  simp [ka] at g0
  obtain ⟨z0, q0, _, w0⟩ := DataW.trod_int Tryz.underlying31 g0
  simp at q0
  have b0 := wf_u8 w0
  obtain ⟨y1, e1⟩ := some_of hxl' (show 1 < 6 by decide)
  have g1 := (hf 1 _ rfl).trans e1
  simp [kb] at g1
  obtain ⟨z1, q1, _, w1⟩ := DataW.trod_int Tryz.underlying5 g1
  simp at q1
  have b1 := wf_u8 w1
  obtain ⟨y2, e2⟩ := some_of hxl' (show 2 < 6 by decide)
  have g2 := (hf 2 _ rfl).trans e2
  simp [ke] at g2
  obtain ⟨E, q2⟩ := openE g2
  simp at q2
  obtain ⟨y3, e3⟩ := some_of hxl' (show 3 < 6 by decide)
  have g3 := (hf 3 _ rfl).trans e3
  simp [kd] at g3
  obtain ⟨z3, q3, _⟩ := DataW.trod_bool Tryz.underlying4 g3
  simp at q3
  obtain ⟨y4, e4⟩ := some_of hxl' (show 4 < 6 by decide)
  have g4 := (hf 4 _ rfl).trans e4
  simp [kd] at g4
  obtain ⟨z4, q4, _⟩ := DataW.trod_bool Tryz.underlying4 g4
  simp at q4
  obtain ⟨y5, e5⟩ := some_of hxl' (show 5 < 6 by decide)
  have g5 := (hf 5 _ rfl).trans e5
  simp [kd] at g5
  obtain ⟨z5, q5, _⟩ := DataW.trod_bool Tryz.underlying4 g5
  simp at q5
  refine ⟨⟨z0.toNat, z1, E, z3, z4, z5⟩, ⟨by show z0.toNat < 256; omega, b1⟩, ?_⟩
  have t0 : ((z0.toNat : Nat) : Int) = z0 := by omega
  simp [pnC, t0, q0, q1, q2, q3, q4, q5]
end Go.Proofs.YtbeeefekndcgnaaGreatDoor
