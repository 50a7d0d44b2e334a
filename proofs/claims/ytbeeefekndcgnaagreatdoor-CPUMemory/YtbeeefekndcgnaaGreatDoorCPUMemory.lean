/- vesperlaw04.CPUMemory returns true: a program in a memory of its own goes, with whatever lines and modes, cycle by cycle as the document's, and leaves the same memory, for every processor, address, program and row of pins; conditions: none but what the row itself asks. -/
import Derived.Test.YtbeeefekndcgnaaGreatDoorCards
import Derived.Test.YtbeeefekndcgnaaGreatDoorTie
import Derived.Test.YtbeeefekndcgnaaGreatDoorData
import Derived.WalkKit
import Derived.ProofKit
import Derived.OpenShut
import Derived.ShutString
import Derived.ChangeOld
import Derived.Below
import Derived.Deep.DeepHandedRow
import Derived.Lib.SmallJoins
import Derived.Test.YtbeeefekndcgnaaGreatDoorMz
import Derived.Test.YtbeeefekndcgnaaGreatDoorCp
import Derived.ChangeArms
import Derived.ChangeShapes
import Derived.Test.YtbeeefekndcgnaaGreatDoorCpU
import Derived.Deep.Slices
import Derived.ChangeSlices
import Derived.SizedLaws
import Derived.Test.YtbeeefekndcgnaaGreatDoorMo
namespace Go.Proofs.YtbeeefekndcgnaaGreatDoor
open Go Go.RowKit Go.ChangeShapes Go.WideShapes
set_option linter.unusedVariables false
set_option maxHeartbeats 1000000

theorem wf_u8 {z : Int} (h : (Lit.int .u8 z).wf = true) : 0 ≤ z ∧ z < 256 := by
  have a : IntKind.min .u8 = 0 := by decide
  have b : IntKind.max .u8 = 255 := by decide
  simp only [Lit.wf, a, b, Bool.and_eq_true, decide_eq_true_eq] at h
  omega
theorem wf_u16 {z : Int} (h : (Lit.int .u16 z).wf = true) : 0 ≤ z ∧ z < 65536 := by
  have a : IntKind.min .u16 = 0 := by decide
  have b : IntKind.max .u16 = 65535 := by decide
  simp only [Lit.wf, a, b, Bool.and_eq_true, decide_eq_true_eq] at h
  omega
theorem list26 {α : Type} {l : List α} (h : l.length = 26) : ∃ a0 a1 a2 a3 a4 a5 a6 a7 a8 a9 a10 a11 a12 a13 a14 a15 a16 a17 a18 a19 a20 a21 a22 a23 a24 a25, l = [a0, a1, a2, a3, a4, a5, a6, a7, a8, a9, a10, a11, a12, a13, a14, a15, a16, a17, a18, a19, a20, a21, a22, a23, a24, a25] := by
  match l, h with
  | [a0, a1, a2, a3, a4, a5, a6, a7, a8, a9, a10, a11, a12, a13, a14, a15, a16, a17, a18, a19, a20, a21, a22, a23, a24, a25], _ => exact ⟨a0, a1, a2, a3, a4, a5, a6, a7, a8, a9, a10, a11, a12, a13, a14, a15, a16, a17, a18, a19, a20, a21, a22, a23, a24, a25, rfl⟩
theorem list9 {α : Type} {l : List α} (h : l.length = 9) : ∃ a0 a1 a2 a3 a4 a5 a6 a7 a8, l = [a0, a1, a2, a3, a4, a5, a6, a7, a8] := by
  match l, h with
  | [a0, a1, a2, a3, a4, a5, a6, a7, a8], _ => exact ⟨a0, a1, a2, a3, a4, a5, a6, a7, a8, rfl⟩
theorem list16 {α : Type} {l : List α} (h : l.length = 16) : ∃ a0 a1 a2 a3 a4 a5 a6 a7 a8 a9 a10 a11 a12 a13 a14 a15, l = [a0, a1, a2, a3, a4, a5, a6, a7, a8, a9, a10, a11, a12, a13, a14, a15] := by
  match l, h with
  | [a0, a1, a2, a3, a4, a5, a6, a7, a8, a9, a10, a11, a12, a13, a14, a15], _ => exact ⟨a0, a1, a2, a3, a4, a5, a6, a7, a8, a9, a10, a11, a12, a13, a14, a15, rfl⟩
theorem list4 {α : Type} {l : List α} (h : l.length = 4) : ∃ a0 a1 a2 a3, l = [a0, a1, a2, a3] := by
  match l, h with
  | [a0, a1, a2, a3], _ => exact ⟨a0, a1, a2, a3, rfl⟩
theorem some_of {α : Type} {l : List α} {k i : Nat} (h : l.length = k) (hi : i < k) : ∃ y, l[i]? = some y := ⟨_, List.getElem?_eq_getElem (by omega)⟩
theorem openR {H : Type} {enc : TypeId × Value → H} {w : World} {m : Nat} {cs : List Value} {x : DataW H × List MemPlace} (h : DataW.trod enc Tryz.prog w 0 (fun _ => true) true m 23 cs = some x) : ∃ R : Nat → Int, (∀ k, 0 ≤ R k ∧ R k < 65536) ∧ cs = [.int .u16 (R 0), .int .u16 (R 1), .int .u16 (R 2), .int .u16 (R 3), .int .u16 (R 4), .int .u16 (R 5), .int .u16 (R 6), .int .u16 (R 7), .int .u16 (R 8), .int .u16 (R 9), .int .u16 (R 10), .int .u16 (R 11), .int .u16 (R 12), .int .u16 (R 13), .int .u16 (R 14), .int .u16 (R 15)] := by
  obtain ⟨xs, n, _, rfl, hl, hxl, hf⟩ := DataW.trod_array Tryz.underlying23 h
  have k1 : Tryz.prog.cellsOf 22 = 1 := by kernel_rfl
  obtain ⟨a0, a1, a2, a3, a4, a5, a6, a7, a8, a9, a10, a11, a12, a13, a14, a15, rfl⟩ := list16 (hl.trans (by kernel_rfl))
  obtain ⟨y0, e0⟩ := some_of hxl (show 0 < 16 by decide)
  have g0 := (hf 0 (by decide)).trans e0
  simp [k1] at g0
  obtain ⟨z0, q0, _, w0⟩ := DataW.trod_int Tryz.underlying22 g0
  simp at q0
  obtain ⟨y1, e1⟩ := some_of hxl (show 1 < 16 by decide)
  have g1 := (hf 1 (by decide)).trans e1
  simp [k1] at g1
  obtain ⟨z1, q1, _, w1⟩ := DataW.trod_int Tryz.underlying22 g1
  simp at q1
  obtain ⟨y2, e2⟩ := some_of hxl (show 2 < 16 by decide)
  have g2 := (hf 2 (by decide)).trans e2
  simp [k1] at g2
  obtain ⟨z2, q2, _, w2⟩ := DataW.trod_int Tryz.underlying22 g2
  simp at q2
  obtain ⟨y3, e3⟩ := some_of hxl (show 3 < 16 by decide)
  have g3 := (hf 3 (by decide)).trans e3
  simp [k1] at g3
  obtain ⟨z3, q3, _, w3⟩ := DataW.trod_int Tryz.underlying22 g3
  simp at q3
  obtain ⟨y4, e4⟩ := some_of hxl (show 4 < 16 by decide)
  have g4 := (hf 4 (by decide)).trans e4
  simp [k1] at g4
  obtain ⟨z4, q4, _, w4⟩ := DataW.trod_int Tryz.underlying22 g4
  simp at q4
  obtain ⟨y5, e5⟩ := some_of hxl (show 5 < 16 by decide)
  have g5 := (hf 5 (by decide)).trans e5
  simp [k1] at g5
  obtain ⟨z5, q5, _, w5⟩ := DataW.trod_int Tryz.underlying22 g5
  simp at q5
  obtain ⟨y6, e6⟩ := some_of hxl (show 6 < 16 by decide)
  have g6 := (hf 6 (by decide)).trans e6
  simp [k1] at g6
  obtain ⟨z6, q6, _, w6⟩ := DataW.trod_int Tryz.underlying22 g6
  simp at q6
  obtain ⟨y7, e7⟩ := some_of hxl (show 7 < 16 by decide)
  have g7 := (hf 7 (by decide)).trans e7
  simp [k1] at g7
  obtain ⟨z7, q7, _, w7⟩ := DataW.trod_int Tryz.underlying22 g7
  simp at q7
  obtain ⟨y8, e8⟩ := some_of hxl (show 8 < 16 by decide)
  have g8 := (hf 8 (by decide)).trans e8
  simp [k1] at g8
  obtain ⟨z8, q8, _, w8⟩ := DataW.trod_int Tryz.underlying22 g8
  simp at q8
  obtain ⟨y9, e9⟩ := some_of hxl (show 9 < 16 by decide)
  have g9 := (hf 9 (by decide)).trans e9
  simp [k1] at g9
  obtain ⟨z9, q9, _, w9⟩ := DataW.trod_int Tryz.underlying22 g9
  simp at q9
  obtain ⟨y10, e10⟩ := some_of hxl (show 10 < 16 by decide)
  have g10 := (hf 10 (by decide)).trans e10
  simp [k1] at g10
  obtain ⟨z10, q10, _, w10⟩ := DataW.trod_int Tryz.underlying22 g10
  simp at q10
  obtain ⟨y11, e11⟩ := some_of hxl (show 11 < 16 by decide)
  have g11 := (hf 11 (by decide)).trans e11
  simp [k1] at g11
  obtain ⟨z11, q11, _, w11⟩ := DataW.trod_int Tryz.underlying22 g11
  simp at q11
  obtain ⟨y12, e12⟩ := some_of hxl (show 12 < 16 by decide)
  have g12 := (hf 12 (by decide)).trans e12
  simp [k1] at g12
  obtain ⟨z12, q12, _, w12⟩ := DataW.trod_int Tryz.underlying22 g12
  simp at q12
  obtain ⟨y13, e13⟩ := some_of hxl (show 13 < 16 by decide)
  have g13 := (hf 13 (by decide)).trans e13
  simp [k1] at g13
  obtain ⟨z13, q13, _, w13⟩ := DataW.trod_int Tryz.underlying22 g13
  simp at q13
  obtain ⟨y14, e14⟩ := some_of hxl (show 14 < 16 by decide)
  have g14 := (hf 14 (by decide)).trans e14
  simp [k1] at g14
  obtain ⟨z14, q14, _, w14⟩ := DataW.trod_int Tryz.underlying22 g14
  simp at q14
  obtain ⟨y15, e15⟩ := some_of hxl (show 15 < 16 by decide)
  have g15 := (hf 15 (by decide)).trans e15
  simp [k1] at g15
  obtain ⟨z15, q15, _, w15⟩ := DataW.trod_int Tryz.underlying22 g15
  simp at q15
  refine ⟨fun k => match k with | 0 => z0 | 1 => z1 | 2 => z2 | 3 => z3 | 4 => z4 | 5 => z5 | 6 => z6 | 7 => z7 | 8 => z8 | 9 => z9 | 10 => z10 | 11 => z11 | 12 => z12 | 13 => z13 | 14 => z14 | 15 => z15 | _ => 0, fun k => ?_, by simp [q0, q1, q2, q3, q4, q5, q6, q7, q8, q9, q10, q11, q12, q13, q14, q15]⟩
  match k with
  | 0 => exact wf_u16 w0
  | 1 => exact wf_u16 w1
  | 2 => exact wf_u16 w2
  | 3 => exact wf_u16 w3
  | 4 => exact wf_u16 w4
  | 5 => exact wf_u16 w5
  | 6 => exact wf_u16 w6
  | 7 => exact wf_u16 w7
  | 8 => exact wf_u16 w8
  | 9 => exact wf_u16 w9
  | 10 => exact wf_u16 w10
  | 11 => exact wf_u16 w11
  | 12 => exact wf_u16 w12
  | 13 => exact wf_u16 w13
  | 14 => exact wf_u16 w14
  | 15 => exact wf_u16 w15
  | k + 16 => exact ⟨(by show (0 : Int) ≤ 0; decide), (by show (0 : Int) < 65536; decide)⟩
theorem openE {H : Type} {enc : TypeId × Value → H} {w : World} {m : Nat} {cs : List Value} {x : DataW H × List MemPlace} (h : DataW.trod enc Tryz.prog w 0 (fun _ => true) true m 36 cs = some x) : ∃ E : Nat → Bool, cs = [.bool (E 0), .bool (E 1), .bool (E 2), .bool (E 3)] := by
  obtain ⟨xs, n, _, rfl, hl, hxl, hf⟩ := DataW.trod_array Tryz.underlying36 h
  have k1 : Tryz.prog.cellsOf 4 = 1 := by kernel_rfl
  obtain ⟨a0, a1, a2, a3, rfl⟩ := list4 (hl.trans (by kernel_rfl))
  obtain ⟨y0, e0⟩ := some_of hxl (show 0 < 4 by decide)
  have g0 := (hf 0 (by decide)).trans e0
  simp [k1] at g0
  obtain ⟨z0, q0, _⟩ := DataW.trod_bool Tryz.underlying4 g0
  simp at q0
  obtain ⟨y1, e1⟩ := some_of hxl (show 1 < 4 by decide)
  have g1 := (hf 1 (by decide)).trans e1
  simp [k1] at g1
  obtain ⟨z1, q1, _⟩ := DataW.trod_bool Tryz.underlying4 g1
  simp at q1
  obtain ⟨y2, e2⟩ := some_of hxl (show 2 < 4 by decide)
  have g2 := (hf 2 (by decide)).trans e2
  simp [k1] at g2
  obtain ⟨z2, q2, _⟩ := DataW.trod_bool Tryz.underlying4 g2
  simp at q2
  obtain ⟨y3, e3⟩ := some_of hxl (show 3 < 4 by decide)
  have g3 := (hf 3 (by decide)).trans e3
  simp [k1] at g3
  obtain ⟨z3, q3, _⟩ := DataW.trod_bool Tryz.underlying4 g3
  simp at q3
  exact ⟨fun k => match k with | 0 => z0 | 1 => z1 | 2 => z2 | _ => z3, by simp [q0, q1, q2, q3]⟩
theorem openC {H : Type} {enc : TypeId × Value → H} {w : World} {m : Nat} {cs : List Value} {x : DataW H × List MemPlace} (h : DataW.trod enc Tryz.prog w 0 (fun _ => true) true m 26 cs = some x) : ∃ c : Cp, c.wf ∧ cs = (cpC c).toList := by
  obtain ⟨xs, n, _, rfl, hl, hxl, hf⟩ := DataW.trod_struct Tryz.underlying26 h
  have ka : Tryz.prog.cellsOf 23 = 16 := by kernel_rfl
  have kb : Tryz.prog.cellsOf 5 = 1 := by kernel_rfl
  have kd : Tryz.prog.cellsOf 4 = 1 := by kernel_rfl
  have ke : Tryz.prog.cellsOf 24 = 1 := by kernel_rfl
  obtain ⟨c0, c1, c2, c3, c4, c5, c6, c7, c8, c9, c10, c11, c12, c13, c14, c15, c16, c17, c18, c19, c20, c21, c22, c23, c24, c25, rfl⟩ := list26 (hl.trans (by kernel_rfl))
  have hxl' : xs.length = 11 := hxl
  obtain ⟨y0, e0⟩ := some_of hxl' (show 0 < 11 by decide)
  have g0 := (hf 0 _ rfl).trans e0
  simp [ka] at g0
  obtain ⟨R, hR, q0⟩ := openR g0
  simp at q0
  obtain ⟨y1, e1⟩ := some_of hxl' (show 1 < 11 by decide)
  have g1 := (hf 1 _ rfl).trans e1
  simp [kb] at g1
  obtain ⟨z1, q1, _, w1⟩ := DataW.trod_int Tryz.underlying5 g1
  simp at q1
  have b1 := wf_u8 w1
  obtain ⟨y2, e2⟩ := some_of hxl' (show 2 < 11 by decide)
  have g2 := (hf 2 _ rfl).trans e2
  simp [kd] at g2
  obtain ⟨z2, q2, _⟩ := DataW.trod_bool Tryz.underlying4 g2
  simp at q2
  obtain ⟨y3, e3⟩ := some_of hxl' (show 3 < 11 by decide)
  have g3 := (hf 3 _ rfl).trans e3
  simp [kb] at g3
  obtain ⟨z3, q3, _, w3⟩ := DataW.trod_int Tryz.underlying5 g3
  simp at q3
  have b3 := wf_u8 w3
  obtain ⟨y4, e4⟩ := some_of hxl' (show 4 < 11 by decide)
  have g4 := (hf 4 _ rfl).trans e4
  simp [kb] at g4
  obtain ⟨z4, q4, _, w4⟩ := DataW.trod_int Tryz.underlying5 g4
  simp at q4
  have b4 := wf_u8 w4
  obtain ⟨y5, e5⟩ := some_of hxl' (show 5 < 11 by decide)
  have g5 := (hf 5 _ rfl).trans e5
  simp [kb] at g5
  obtain ⟨z5, q5, _, w5⟩ := DataW.trod_int Tryz.underlying5 g5
  simp at q5
  have b5 := wf_u8 w5
  obtain ⟨y6, e6⟩ := some_of hxl' (show 6 < 11 by decide)
  have g6 := (hf 6 _ rfl).trans e6
  simp [kd] at g6
  obtain ⟨z6, q6, _⟩ := DataW.trod_bool Tryz.underlying4 g6
  simp at q6
  obtain ⟨y7, e7⟩ := some_of hxl' (show 7 < 11 by decide)
  have g7 := (hf 7 _ rfl).trans e7
  simp [kd] at g7
  obtain ⟨z7, q7, _⟩ := DataW.trod_bool Tryz.underlying4 g7
  simp at q7
  obtain ⟨y8, e8⟩ := some_of hxl' (show 8 < 11 by decide)
  have g8 := (hf 8 _ rfl).trans e8
  simp [kb] at g8
  obtain ⟨z8, q8, _, w8⟩ := DataW.trod_int Tryz.underlying5 g8
  simp at q8
  have b8 := wf_u8 w8
  obtain ⟨y9, e9⟩ := some_of hxl' (show 9 < 11 by decide)
  have g9 := (hf 9 _ rfl).trans e9
  simp [kb] at g9
  obtain ⟨z9, q9, _, w9⟩ := DataW.trod_int Tryz.underlying5 g9
  simp at q9
  have b9 := wf_u8 w9
  obtain ⟨y10, e10⟩ := some_of hxl' (show 10 < 11 by decide)
  have g10 := (hf 10 _ rfl).trans e10
  simp [ke] at g10
  obtain ⟨z10, q10, _, w10⟩ := DataW.trod_int Tryz.underlying24 g10
  simp at q10
  have b10 := wf_u8 w10
  refine ⟨⟨R, z1, z2, z3.toNat, z4.toNat, z5, z6, z7, z8.toNat, z9, z10.toNat⟩, ⟨hR, b1, by show z3.toNat < 256; omega, by show z4.toNat < 256; omega, b5, by show z8.toNat < 256; omega, b9, by show z10.toNat < 256; omega⟩, ?_⟩
  have t3 : ((z3.toNat : Nat) : Int) = z3 := by omega
  have t4 : ((z4.toNat : Nat) : Int) = z4 := by omega
  have t8 : ((z8.toNat : Nat) : Int) = z8 := by omega
  have t10 : ((z10.toNat : Nat) : Int) = z10 := by omega
  simp [cpC, t3, t4, t8, t10, q0, q1, q2, q3, q4, q5, q6, q7, q8, q9, q10]
theorem openP {H : Type} {enc : TypeId × Value → H} {w : World} {m : Nat} {cs : List Value} {x : DataW H × List MemPlace} (h : DataW.trod enc Tryz.prog w 0 (fun _ => true) true m 38 cs = some x) : ∃ p : Pn, p.wf ∧ cs = (pnC p).toList := by
  obtain ⟨xs, n, _, rfl, hl, hxl, hf⟩ := DataW.trod_struct Tryz.underlying38 h
  have ka : Tryz.prog.cellsOf 31 = 1 := by kernel_rfl
  have kb : Tryz.prog.cellsOf 5 = 1 := by kernel_rfl
  have kd : Tryz.prog.cellsOf 4 = 1 := by kernel_rfl
  have ke : Tryz.prog.cellsOf 36 = 4 := by kernel_rfl
  obtain ⟨c0, c1, c2, c3, c4, c5, c6, c7, c8, rfl⟩ := list9 (hl.trans (by kernel_rfl))
  have hxl' : xs.length = 6 := hxl
  obtain ⟨y0, e0⟩ := some_of hxl' (show 0 < 6 by decide)
  have g0 := (hf 0 _ rfl).trans e0
  simp [ka] at g0
  obtain ⟨z0, q0, _, w0⟩ := DataW.trod_int Tryz.underlying31 g0
  simp at q0
  have b0 := wf_u8 w0
  obtain ⟨y1, e1⟩ := some_of hxl' (show 1 < 6 by decide)
  have g1 := (hf 1 _ rfl).trans e1
  simp [kb] at g1
  obtain ⟨z1, q1, _, w1⟩ := DataW.trod_int Tryz.underlying5 g1
  simp at q1
  have b1 := wf_u8 w1
  obtain ⟨y2, e2⟩ := some_of hxl' (show 2 < 6 by decide)
  have g2 := (hf 2 _ rfl).trans e2
  simp [ke] at g2
  obtain ⟨E, q2⟩ := openE g2
  simp at q2
  obtain ⟨y3, e3⟩ := some_of hxl' (show 3 < 6 by decide)
  have g3 := (hf 3 _ rfl).trans e3
  simp [kd] at g3
  obtain ⟨z3, q3, _⟩ := DataW.trod_bool Tryz.underlying4 g3
  simp at q3
  obtain ⟨y4, e4⟩ := some_of hxl' (show 4 < 6 by decide)
  have g4 := (hf 4 _ rfl).trans e4
  simp [kd] at g4
  obtain ⟨z4, q4, _⟩ := DataW.trod_bool Tryz.underlying4 g4
  simp at q4
  obtain ⟨y5, e5⟩ := some_of hxl' (show 5 < 6 by decide)
  have g5 := (hf 5 _ rfl).trans e5
  simp [kd] at g5
  obtain ⟨z5, q5, _⟩ := DataW.trod_bool Tryz.underlying4 g5
  simp at q5
  refine ⟨⟨z0.toNat, z1, E, z3, z4, z5⟩, ⟨by show z0.toNat < 256; omega, b1⟩, ?_⟩
  have t0 : ((z0.toNat : Nat) : Int) = z0 := by omega
  simp [pnC, t0, q0, q1, q2, q3, q4, q5]
end Go.Proofs.YtbeeefekndcgnaaGreatDoor

namespace Go.Proofs.YtbeeefekndcgnaaGreatDoor
open Go.RowKit Go.ChangeShapes Go.WideShapes
set_option linter.unusedVariables false
set_option maxHeartbeats 1000000

theorem addM (g off i : Nat) : (⟨g, off, none⟩ : Addr).add i = ⟨g, off + i, none⟩ := by unfold Addr.add; split <;> simp_all
theorem pins_open {H : Type} {enc : TypeId × Value → H} {w : World} {m : Nat} {a : Option Addr} {len cap : Nat} {x : DataW H × List MemPlace} (h : DataW.trod enc Tryz.prog w 0 (fun _ => true) true m 27 [.slice a len cap] = some x) : len ≤ maxLen ∧ PinsIn w a len := by
  rcases Go.Deep.open_slice Tryz.underlying27 h with ⟨hcs, _⟩ | ⟨ad, len', cap', M, n, D, Pl, hcs, _, hl, hm, hM, rfl, hx⟩
  · simp at hcs
    obtain ⟨rfl, rfl, rfl⟩ := hcs
    exact ⟨Nat.zero_le _, fun k hk => absurd hk (by omega)⟩
  · simp at hcs
    obtain ⟨rfl, rfl, rfl⟩ := hcs
    simp at hM
    subst hM
    have hC : Tryz.prog.cellsOf 38 = 9 := by kernel_rfl
    rw [hC] at hx
    refine ⟨by omega, fun k hk => ?_⟩
    obtain ⟨g, off, spot⟩ := ad
    have each : ∀ j, j < len → ∃ p : Pn, p.wf ∧ ∀ i v, (pnC p).toList[i]? = some v → w.cell? ((⟨g, off, spot⟩ : Addr).add (j * 9 + i)) = some v := fun j hj => by
      obtain ⟨cs, h1, h2⟩ := hx j (by omega)
      obtain ⟨p, hp, rfl⟩ := openP h2
      obtain ⟨_, _, hc⟩ := World.cells?_some h1
      refine ⟨p, hp, fun i v hv => ?_⟩
      have hi : i < 9 := by
        rcases Nat.lt_or_ge i 9 with h | h
        · exact h
        · rw [List.getElem?_eq_none (by simpa [pnC] using h)] at hv; cases hv
      rw [← Go.Deep.add_add, hc i hi, hv]
    have hs : spot = none := by
      obtain ⟨p, _, ho⟩ := each 0 (by omega)
      have c0 := ho 0 _ rfl
      rw [show (⟨g, off, spot⟩ : Addr).add (0 * 9 + 0) = ⟨g, off, spot⟩ from rfl] at c0
      cases spot with
      | none => rfl
      | some s =>
        exfalso
        unfold World.cell? at c0
        split at c0 <;> simp at c0
    subst hs
    obtain ⟨p, hp, ho⟩ := each k hk
    exact ⟨g, off, p, rfl, hp, fun i v hv => by have := ho i v hv; rw [addM, ← Nat.add_assoc] at this; exact this⟩
end Go.Proofs.YtbeeefekndcgnaaGreatDoor

namespace Go.Proofs.YtbeeefekndcgnaaGreatDoor
open Go.RowKit Go.ChangeShapes Go.WideShapes
set_option linter.unusedVariables false
set_option maxHeartbeats 1000000

theorem list3 {α : Type} {l : List α} (h : l.length = 3) : ∃ a b c, l = [a, b, c] := by
  match l, h with
  | [a, b, c], _ => exact ⟨a, b, c, rfl⟩
theorem bytes_open {H : Type} {enc : TypeId × Value → H} {w : World} {m : Nat} {a : Option Addr} {len cap : Nat} {x : DataW H × List MemPlace} (hf : DataW.trod enc Tryz.prog w 0 (fun _ => true) true m 40 [.slice a len cap] = some x) : len ≤ maxLen ∧ ∃ Y : Nat → Int, (∀ j, 0 ≤ Y j ∧ Y j < 256) ∧ Lies w a len Y := by
  rcases open_ints Tryz.underlying40 Tryz.underlying5 (by kernel_rfl) hf with ⟨hcs, _⟩ | ⟨x, l, c, zs, hcs, _, hl, hm, hz, _, hcell, hwz⟩
  · simp at hcs
    obtain ⟨rfl, rfl, rfl⟩ := hcs
    exact ⟨Nat.zero_le _, fun _ => 0, fun j => by simp, fun j hj => absurd hj (by omega)⟩
  · simp at hcs
    obtain ⟨rfl, rfl, rfl⟩ := hcs
    have hz' : zs.length = cap := by simpa using hz
    refine ⟨by omega, fun j => if j < zs.length then zs.getD j 0 else 0, fun j => ?_, fun j hj => ?_⟩
    · show 0 ≤ (if j < zs.length then zs.getD j 0 else 0) ∧ (if j < zs.length then zs.getD j 0 else 0) < 256
      by_cases hj : j < zs.length
      · rw [if_pos hj]
        have hm' : zs.getD j 0 ∈ zs := by rw [List.getD_eq_getElem?_getD, List.getElem?_eq_getElem hj]; exact List.getElem_mem hj
        exact wf_u8 (hwz _ hm')
      · rw [if_neg hj]; decide
    · obtain ⟨g, off, spot⟩ := x
      have c0 := hcell 0 (by omega)
      rw [show (⟨g, off, spot⟩ : Addr).add 0 = ⟨g, off, spot⟩ from rfl] at c0
      have hs : spot = none := by
        cases spot with
        | none => rfl
        | some s =>
          exfalso
          unfold World.cell? at c0
          split at c0 <;> simp at c0
      subst hs
      refine ⟨g, off, rfl, ?_⟩
      have := hcell j (by omega)
      rw [addM] at this
      rw [this]
      show some (Value.int .u8 (zs.getD j 0)) = some (.int .u8 (if j < zs.length then zs.getD j 0 else 0))
      rw [if_pos (by omega)]
theorem play_open {H : Type} {enc : TypeId × Value → H} {w : World} {m : Nat} {cs : List Value} {x : DataW H × List MemPlace} (h : DataW.trod enc Tryz.prog w 0 (fun _ => true) true m 42 cs = some x) :
    ∃ (at_ : Nat) (sp : Option Addr) (plen pcap : Nat) (a : Option Addr) (len cap : Nat) (P : Nat → Int), cs = [.int .u16 (at_ : Int), .slice sp plen pcap, .slice a len cap] ∧ at_ < 65536 ∧ plen ≤ maxLen ∧ (∀ j, 0 ≤ P j ∧ P j < 256) ∧ Lies w sp plen P ∧ len ≤ maxLen ∧ PinsIn w a len := by
  obtain ⟨xs, n, _, rfl, hl, hxl, hf⟩ := DataW.trod_struct Tryz.underlying42 h
  obtain ⟨c0, c1, c2, rfl⟩ := list3 (hl.trans (by kernel_rfl))
  have g0 := hf 0 _ rfl
  have g1 := hf 1 _ rfl
  have g2 := hf 2 _ rfl
  have k0 : Tryz.prog.cellsOf 22 = 1 := by kernel_rfl
  have k1 : Tryz.prog.cellsOf 40 = 1 := by kernel_rfl
  have k2 : Tryz.prog.cellsOf 27 = 1 := by kernel_rfl
  simp [k0, k1, k2] at g0 g1 g2
  have hx3 : xs.length = 3 := hxl
  have at' : ∀ i, i < 3 → ∃ y, xs[i]? = some y := fun i hi => ⟨_, List.getElem?_eq_getElem (by omega)⟩
  obtain ⟨y0, e0⟩ := at' 0 (by decide)
  obtain ⟨y1, e1⟩ := at' 1 (by decide)
  obtain ⟨y2, e2⟩ := at' 2 (by decide)
  obtain ⟨z, q0, _, w0⟩ := DataW.trod_int Tryz.underlying22 (g0.trans e0)
  obtain ⟨sp, plen, pcap, rfl⟩ : ∃ sp len cap, c1 = .slice sp len cap := by
    rcases Go.Deep.open_slice Tryz.underlying40 (g1.trans e1) with ⟨hcs, _⟩ | ⟨ad, len', cap', M, n, D, Pl, hcs, _⟩
    · simp at hcs; exact ⟨_, _, _, hcs⟩
    · simp at hcs; exact ⟨_, _, _, hcs⟩
  obtain ⟨a, len, cap, rfl⟩ : ∃ sp len cap, c2 = .slice sp len cap := by
    rcases Go.Deep.open_slice Tryz.underlying27 (g2.trans e2) with ⟨hcs, _⟩ | ⟨ad, len', cap', M, n, D, Pl, hcs, _⟩
    · simp at hcs; exact ⟨_, _, _, hcs⟩
    · simp at hcs; exact ⟨_, _, _, hcs⟩
  obtain ⟨h1, P, hP0, hP⟩ := bytes_open (g1.trans e1)
  obtain ⟨h2, hPin⟩ := pins_open (g2.trans e2)
  simp at q0
  subst q0
  have hz : 0 ≤ z ∧ z < 65536 := by have h := w0; simp [Lit.wf, IntKind.min, IntKind.max, IntKind.bits, IntKind.signed] at h; omega
  exact ⟨z.toNat, sp, plen, pcap, a, len, cap, P, by rw [Int.toNat_of_nonneg hz.1], by omega, h1, hP0, hP, h2, hPin⟩
end Go.Proofs.YtbeeefekndcgnaaGreatDoor

namespace Go.Proofs.YtbeeefekndcgnaaGreatDoor.cPUMemory
open Go.ChangeShapes Go.WideShapes Go.ChangeAt Go.RowKit
open Go.ChangeMaps (open_string shut_string)
set_option linter.unusedVariables false
set_option maxRecDepth 100000

theorem own : ownKnob Tryz.prog.godebug = none := by kernel_rfl
theorem laidOut : laidOutB Tryz.prog = true := by kernel_rfl

/-- What the walk gives, for every argument and every world that holds the tables. -/
theorem contract (H : Type) (enc : TypeId × Value → H) (W : World) (base : Nat) (args : Array Value) (ds gs : List (DataW H)) (before : List MemPlace)
    (hval : ∀ (j : Nat) t v, Tryz.f4.params[j]? = some t → args[j]? = some v → Value.okWide Tryz.prog W .any base t v)
    (hW : DataW.Whole enc Tryz.prog Tryz.f4.params.toList Rows.cPUMemorySpec.vars false W args.toList ds gs before) (hL : laidMetH Tryz.prog Rows.cPUMemoryRow.laid W) :
    Calls Tryz.prog 4 args W fun e W' => ∃ v, e = .returned v ∧ Rows.cPUMemorySpec.post enc Tryz.prog Tryz.f4 false true false false W args v W' := by
  have hL' : laidMet Tryz.prog (theLaid) W := hL
  obtain ⟨ps, hvs, _⟩ := hL'
  have T : Tabs W := tabs_of_vars hvs (fun x hx => hx)
  have hW' := hW
  obtain ⟨p, q, hA0, hV, rfl, hfz, hnd⟩ := hW
  have hA : DataW.TrodAll enc Tryz.prog W 0 (fun _ => true) true Tryz.f4.params.toList args.toList ds p := hA0
  rw [Tryz.params4] at hA hval
  obtain ⟨v0, vs0, d0, ds0, p0, q0, hargs, rfl, rfl, h0, r0⟩ := trodAll_cons hA
  obtain ⟨v1, vs1, d1, ds1, p1, q1, rfl, rfl, rfl, h1, r1⟩ := trodAll_cons r0
  obtain ⟨rfl, rfl, rfl⟩ := trodAll_nil r1
  obtain rfl : args = #[v0, v1] := by cases args; simp_all
  obtain ⟨rfl, rfl⟩ := trodVars_none hV
  have k0 := h0
  have lt0 : ∀ x ∈ p0, x.block < W.heap.size := by obtain ⟨m, hm⟩ := k0; exact DataW.trod_lt m _ _ _ hm
  obtain ⟨A0, rfl, _⟩ := okWide_struct Tryz.underlying26 (hval 0 26 v0 rfl rfl)
  obtain ⟨fuel0, hf0⟩ := h0
  obtain ⟨c0, hc0, e0⟩ := openC hf0
  obtain rfl : A0 = cpC c0 := Array.toList_inj.1 e0
  have k1 := h1
  have lt1 : ∀ x ∈ p1, x.block < W.heap.size := by obtain ⟨m, hm⟩ := k1; exact DataW.trod_lt m _ _ _ hm
  obtain ⟨A1, rfl, _⟩ := okWide_struct Tryz.underlying42 (hval 1 42 v1 rfl rfl)
  obtain ⟨fuel1, hf1⟩ := h1
  obtain ⟨at1, sp1, plen1, pcap1, a1, len1, cap1, P1, e1, hat1, hpl1, hP01, hP1, hl1, hPin1⟩ := play_open hf1
  obtain rfl : A1 = plC at1 sp1 plen1 pcap1 a1 len1 cap1 := Array.toList_inj.1 e1
  clear hA0
  refine (mem_walk W c0 hc0 at1 hat1 sp1 plen1 pcap1 hpl1 a1 len1 cap1 hl1 P1 hP01 hP1 hPin1 T).mono fun e W' ⟨he, bel⟩ => ?_
  subst he
  exact ⟨_, rfl, _, _, _, [], _, [], hW', trodAll_mk1 (shut_bool Tryz.underlying4 _), (trodAll_cons_mk (Below.trod laidOut (by kernel_rfl) (of_decide_eq_true (by kernel_rfl)) k0 bel lt0) (trodAll_cons_mk (Below.trod laidOut (by kernel_rfl) (of_decide_eq_true (by kernel_rfl)) k1 bel lt1) trodAll_mk0)), rfl, bel.frame _, fun h => by cases h⟩

theorem laid_met (os : Os) : laidMet Tryz.prog Rows.cPUMemoryRow.laid ((laidWorld Tryz.prog os).forCall (fun _ _ => 0) ⟨#[], #[.agg #[.int .u16 0, .int .u16 0, .int .u16 0, .int .u16 0, .int .u16 0, .int .u16 0, .int .u16 0, .int .u16 0, .int .u16 0, .int .u16 0, .int .u16 0, .int .u16 0, .int .u16 0, .int .u16 0, .int .u16 0, .int .u16 0, .int .u8 0, .bool false, .int .u8 0, .int .u8 0, .int .u8 0, .bool false, .bool false, .int .u8 0, .int .u8 0, .int .u8 0], .agg #[.int .u16 0, .slice none 0 0, .slice none 0 0]], []⟩).memory :=
  laidMet_of_run' 8 (by kernel_rfl) (by kernel_rfl)
theorem reads (os : Os) {H : Type} (enc : TypeId × Value → H) : ∃ places, DataW.whole enc Tryz.prog ((laidWorld Tryz.prog os).forCall (fun _ _ => 0) ⟨#[], #[.agg #[.int .u16 0, .int .u16 0, .int .u16 0, .int .u16 0, .int .u16 0, .int .u16 0, .int .u16 0, .int .u16 0, .int .u16 0, .int .u16 0, .int .u16 0, .int .u16 0, .int .u16 0, .int .u16 0, .int .u16 0, .int .u16 0, .int .u8 0, .bool false, .int .u8 0, .int .u8 0, .int .u8 0, .bool false, .bool false, .int .u8 0, .int .u8 0, .int .u8 0], .agg #[.int .u16 0, .slice none 0 0, .slice none 0 0]], []⟩).memory Tryz.f4.params.toList Rows.cPUMemorySpec.vars false (#[.agg #[.int .u16 0, .int .u16 0, .int .u16 0, .int .u16 0, .int .u16 0, .int .u16 0, .int .u16 0, .int .u16 0, .int .u16 0, .int .u16 0, .int .u16 0, .int .u16 0, .int .u16 0, .int .u16 0, .int .u16 0, .int .u16 0, .int .u8 0, .bool false, .int .u8 0, .int .u8 0, .int .u8 0, .bool false, .bool false, .int .u8 0, .int .u8 0, .int .u8 0], .agg #[.int .u16 0, .slice none 0 0, .slice none 0 0]] : Array Value).toList 8 = some ([.agg [.agg [.lit (.int .u16 0), .lit (.int .u16 0), .lit (.int .u16 0), .lit (.int .u16 0), .lit (.int .u16 0), .lit (.int .u16 0), .lit (.int .u16 0), .lit (.int .u16 0), .lit (.int .u16 0), .lit (.int .u16 0), .lit (.int .u16 0), .lit (.int .u16 0), .lit (.int .u16 0), .lit (.int .u16 0), .lit (.int .u16 0), .lit (.int .u16 0)], .lit (.int .u8 0), .lit (.bool false), .lit (.int .u8 0), .lit (.int .u8 0), .lit (.int .u8 0), .lit (.bool false), .lit (.bool false), .lit (.int .u8 0), .lit (.int .u8 0), .lit (.int .u8 0)], .agg [.lit (.int .u16 0), .nil, .nil]], [], places) :=
  ⟨[], by kernel_rfl⟩

set_option maxRecDepth 100000 in
theorem lifted (os : Os) (started : os.Started) (H : Type) (enc : TypeId × Value → H) (F : Stop.Interp) :
    ReturnsInHanded {} Tryz.checked os 4 .any ((OpenSpec.ofChange Rows.cPUMemorySpec).preRow enc Tryz.prog Tryz.f4 Rows.cPUMemoryRow.domain false Rows.cPUMemoryRow.laid) (((OpenSpec.ofChange Rows.cPUMemorySpec).at F).post enc Tryz.prog Tryz.f4 false true false false) := by
  obtain ⟨places, hx⟩ := reads os enc
  refine returnsInHanded_of_row (C := Tryz.checked) (s := OpenSpec.ofChange Rows.cPUMemorySpec) own started (by kernel_rfl) Tryz.func4
    (witness_row_at (enc := enc) (C := Tryz.checked) false (laidWorld Tryz.prog os) #[.agg #[.int .u16 0, .int .u16 0, .int .u16 0, .int .u16 0, .int .u16 0, .int .u16 0, .int .u16 0, .int .u16 0, .int .u16 0, .int .u16 0, .int .u16 0, .int .u16 0, .int .u16 0, .int .u16 0, .int .u16 0, .int .u16 0, .int .u8 0, .bool false, .int .u8 0, .int .u8 0, .int .u8 0, .bool false, .bool false, .int .u8 0, .int .u8 0, .int .u8 0], .agg #[.int .u16 0, .slice none 0 0, .slice none 0 0]] rfl (by kernel_rfl) (by kernel_rfl) (by kernel_rfl)
      (OpenSpec.preRow_of_cond 8 hx (by kernel_rfl) (fun k hk => by cases hk) (by kernel_rfl) (laid_met os))) ?_
  intro W base args ds gs before hval hW _ _ _ hL _ _
  exact contract H enc W base args ds gs before hval hW hL

theorem said : Rows.CPUMemorySaid :=
  OpenClaim.holds_of_cond 4 Tryz.f4 rfl rfl rfl rfl rfl rfl rfl ⟨rfl, rfl, rfl, rfl, rfl⟩ rfl rfl rfl rfl rfl (by kernel_rfl) Tryz.func4 (by kernel_rfl)
    (of_decide_eq_true (by kernel_rfl)) (by unfold Func.isWrapper; first | (rw [if_pos (by decide +kernel)]; kernel_rfl) | (rw [if_neg (by decide +kernel)]; exact ⟨rfl, rfl⟩))
    (fun os started H enc _ F => by rw [OpenClaim.pre_eq_preRow]; exact lifted os started H enc F)

/-- No parameter wants a stand-in; the program's own looks are off. -/
theorem plain (f : FuncId) (fn : Func) (hf : Tryz.pinned.checked.prog.funcNamed "vesper/vesperlaw04.CPUMemory" = some f) (hfn : Tryz.pinned.checked.prog.funcs[f]? = some fn) :
    false = Tryz.pinned.checked.prog.looks [] ∧ ∀ (j : Nat) t, fn.params[j]? = some t → Tryz.pinned.checked.prog.wantsStandIn t = false := by
  obtain rfl : f = 4 := Option.some.inj ((show Tryz.prog.funcNamed "vesper/vesperlaw04.CPUMemory" = some 4 by kernel_rfl).symm.trans hf) |>.symm
  obtain rfl : fn = Tryz.f4 := (Option.some.inj (Tryz.func4.symm.trans hfn)).symm
  refine ⟨by kernel_rfl, fun j t ht => ?_⟩
  have all : Tryz.f4.params.toList.all (fun t => !(Tryz.prog.wantsStandIn t)) = true := by kernel_rfl
  have hm : t ∈ Tryz.f4.params.toList := by simpa using Array.mem_of_getElem? ht
  have := List.all_eq_true.1 all t hm
  have no : Tryz.prog.wantsStandIn t = false := by simpa using this
  exact no

theorem proved : Rows.CPUMemoryCardSaid :=
  Claim7.holds_tied_plain_at .later [] _ _ _ _ said (fun _ h => by cases h) (by kernel_rfl) (fun _ h => by cases h) cPUMemory_row_tie rfl ⟨rfl, rfl⟩ (by kernel_rfl) rfl plain (by kernel_rfl)
#print axioms proved
end Go.Proofs.YtbeeefekndcgnaaGreatDoor.cPUMemory
