/- An order that came in as an argument, opened; the listed tables of layer 16. -/
import Derived.Test.YtfdikiafbfljaaaDoorRows
import Derived.Test.YtfdikiafbfljaaaDoorPa5
import Derived.WalkKit
import Derived.ProofKit
import Derived.OpenShut
import Derived.ChangeArms
import Derived.ChangeShapes
import Derived.SizedLaws
import Derived.Stop.LaidErr
import Derived.Shelf.Vars
namespace Go.Proofs.YtfdikiafbfljaaaDoor
open Go Go.RowKit Go.ChangeShapes Go.WideShapes Go.Shelf
set_option linter.unusedVariables false
set_option maxHeartbeats 400000
set_option maxRecDepth 100000

theorem wf_u8 {z : Int} (h : (Lit.int .u8 z).wf = true) : 0 ≤ z ∧ z < 256 := by
  have a : IntKind.min .u8 = 0 := by decide
  have b : IntKind.max .u8 = 255 := by decide
  simp only [Lit.wf, a, b, Bool.and_eq_true, decide_eq_true_eq] at h
  omega
theorem wf_u16 {z : Int} (h : (Lit.int .u16 z).wf = true) : 0 ≤ z ∧ z < 65536 := by
  have a : IntKind.min .u16 = 0 := by decide
  have b : IntKind.max .u16 = 65535 := by decide
  simp only [Lit.wf, a, b, Bool.and_eq_true, decide_eq_true_eq] at h
  omega
theorem list6 {α : Type} {l : List α} (h : l.length = 6) : ∃ a b c d e f, l = [a, b, c, d, e, f] := by
  match l, h with
  | [a, b, c, d, e, f], _ => exact ⟨a, b, c, d, e, f, rfl⟩
theorem some_of {α : Type} {l : List α} {k i : Nat} (h : l.length = k) (hi : i < k) : ∃ y, l[i]? = some y := ⟨_, List.getElem?_eq_getElem (by omega)⟩
theorem undO : Tryd.prog.underlying 28 = some (.int .u8) := by kernel_rfl
theorem openOd {H : Type} {enc : TypeId × Value → H} {w : World} {m : Nat} {cs : List Value} {x : DataW H × List MemPlace} (h : DataW.trod enc Tryd.prog w 0 (fun _ => true) true m 30 cs = some x) : ∃ o : Od, OdR o ∧ cs = (o6 o).toList := by
  obtain ⟨xs, n, _, rfl, hl, hxl, hf⟩ := DataW.trod_struct Tryd.underlying30 h
  obtain ⟨c0, c1, c2, c3, c4, c5, rfl⟩ := list6 (hl.trans (by kernel_rfl))
  have kO : Tryd.prog.cellsOf 28 = 1 := by kernel_rfl
  have k5 : Tryd.prog.cellsOf 5 = 1 := by kernel_rfl
  have k27 : Tryd.prog.cellsOf 27 = 1 := by kernel_rfl
  have hx6 : xs.length = 6 := hxl
  obtain ⟨y0, e0⟩ := some_of hx6 (show 0 < 6 by decide)
  obtain ⟨y1, e1⟩ := some_of hx6 (show 1 < 6 by decide)
  obtain ⟨y2, e2⟩ := some_of hx6 (show 2 < 6 by decide)
  obtain ⟨y3, e3⟩ := some_of hx6 (show 3 < 6 by decide)
  obtain ⟨y4, e4⟩ := some_of hx6 (show 4 < 6 by decide)
  obtain ⟨y5, e5⟩ := some_of hx6 (show 5 < 6 by decide)
  have g0 := (hf 0 _ rfl).trans e0
  have g1 := (hf 1 _ rfl).trans e1
  have g2 := (hf 2 _ rfl).trans e2
  have g3 := (hf 3 _ rfl).trans e3
  have g4 := (hf 4 _ rfl).trans e4
  have g5 := (hf 5 _ rfl).trans e5
  simp [kO] at g0
  simp [k5] at g1 g2 g3 g4
  simp [k27] at g5
  obtain ⟨z0, q0, _, w0⟩ := DataW.trod_int undO g0
  obtain ⟨z1, q1, _, w1⟩ := DataW.trod_int Tryd.underlying5 g1
  obtain ⟨z2, q2, _, w2⟩ := DataW.trod_int Tryd.underlying5 g2
  obtain ⟨z3, q3, _, w3⟩ := DataW.trod_int Tryd.underlying5 g3
  obtain ⟨z4, q4, _, w4⟩ := DataW.trod_int Tryd.underlying5 g4
  obtain ⟨z5, q5, _, w5⟩ := DataW.trod_int Tryd.underlying27 g5
  simp at q0 q1 q2 q3 q4 q5
  subst q0 q1 q2 q3 q4 q5
  have b0 := wf_u8 w0
  have b1 := wf_u8 w1
  have b2 := wf_u8 w2
  have b3 := wf_u8 w3
  have b4 := wf_u8 w4
  have b5 := wf_u16 w5
  refine ⟨⟨z0.toNat, z1.toNat, z2.toNat, z3.toNat, z4.toNat, z5.toNat⟩, ⟨by show z0.toNat < 256; omega, by show z1.toNat < 256; omega, by show z2.toNat < 256; omega, by show z3.toNat < 256; omega, by show z4.toNat < 256; omega, by show z5.toNat < 65536; omega⟩, ?_⟩
  show _ = [Value.int .u8 ((z0.toNat : Nat) : Int), .int .u8 ((z1.toNat : Nat) : Int), .int .u8 ((z2.toNat : Nat) : Int), .int .u8 ((z3.toNat : Nat) : Int), .int .u8 ((z4.toNat : Nat) : Int), .int .u16 ((z5.toNat : Nat) : Int)]
  rw [Int.toNat_of_nonneg b0.1, Int.toNat_of_nonneg b1.1, Int.toNat_of_nonneg b2.1, Int.toNat_of_nonneg b3.1, Int.toNat_of_nonneg b4.1, Int.toNat_of_nonneg b5.1]
def theLaid13 : List (String × DataW Unit) := [("unicode/utf8.acceptRanges", Rows.laid_unicode_utf8_acceptRanges), ("unicode/utf8.first", Rows.laid_unicode_utf8_first)]
def TmE (W : World) : Prop := ∃ mx, Tm mx W
theorem tabs_of {W : World} (hL : laidMet Tryd.prog theLaid13 W) (hsh : W.ShapedOpen Tryd.prog) : TmE W :=
  cell_of_shapedOpen_int hsh (g := 0) (t := 3) (zero := #[.int .i64 0]) (of_decide_eq_true (by kernel_rfl)) (by kernel_rfl) rfl (by kernel_rfl) (by kernel_rfl) Tryd.underlying3
/-- A world in which the listed tables stand. -/
def putCells (cs : List Value) : Obj → Obj
  | .cells _ t frozen => .cells cs.toArray t frozen
  | o => o
def accL : List Nat := [128, 191, 160, 191, 128, 159, 144, 191, 128, 143, 0, 0, 0, 0, 0, 0, 0, 0, 0, 0, 0, 0, 0, 0, 0, 0, 0, 0, 0, 0, 0, 0]
def numU8 (n : Nat) : Value := .int .u8 (n : Int)
def laidWorld (P : Program) (os : Os) : World :=
  { World.holding P os ⟨#[], #[], []⟩ with
    heap := ((World.holding P os ⟨#[], #[], []⟩).heap.modify 2 (putCells (accL.map numU8))).modify 1 (putCells (Go.Pinned.utf8FirstZ.map numU8)) }
end Go.Proofs.YtfdikiafbfljaaaDoor
