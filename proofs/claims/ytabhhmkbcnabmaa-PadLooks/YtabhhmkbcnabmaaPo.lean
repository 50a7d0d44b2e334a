/- A pad, a drive, a row of numbers that came in as arguments, opened. -/
import Derived.Test.YtabhhmkbcnabmaaPc
import Derived.Test.YtabhhmkbcnabmaaPf
import Derived.WalkKit
import Derived.ProofKit
import Derived.OpenShut
import Derived.ChangeArms
import Derived.ChangeShapes
import Derived.ChangeSlices
import Derived.SizedLaws
namespace Go.Proofs.Ytabhhmkbcnabmaa
open Go Go.RowKit Go.ChangeShapes Go.WideShapes
set_option linter.unusedVariables false
set_option maxHeartbeats 400000

theorem wf_u8 {z : Int} (h : (Lit.int .u8 z).wf = true) : 0 ≤ z ∧ z < 256 := by
  have a : IntKind.min .u8 = 0 := by decide
  have b : IntKind.max .u8 = 255 := by decide
  simp only [Lit.wf, a, b, Bool.and_eq_true, decide_eq_true_eq] at h
  omega
theorem wf_u16 {z : Int} (h : (Lit.int .u16 z).wf = true) : 0 ≤ z ∧ z < 65536 := by
  have a : IntKind.min .u16 = 0 := by decide
  have b : IntKind.max .u16 = 65535 := by decide
  simp only [Lit.wf, a, b, Bool.and_eq_true, decide_eq_true_eq] at h
  omega
theorem list1 {α : Type} {l : List α} (h : l.length = 1) : ∃ a, l = [a] := by
  match l, h with
  | [a], _ => exact ⟨a, rfl⟩
theorem list8 {α : Type} {l : List α} (h : l.length = 8) : ∃ a b c d e f g i, l = [a, b, c, d, e, f, g, i] := by
  match l, h with
  | [a, b, c, d, e, f, g, i], _ => exact ⟨a, b, c, d, e, f, g, i, rfl⟩
theorem some_of {α : Type} {l : List α} {k i : Nat} (h : l.length = k) (hi : i < k) : ∃ y, l[i]? = some y := ⟨_, List.getElem?_eq_getElem (by omega)⟩
theorem openPad {H : Type} {enc : TypeId × Value → H} {w : World} {m : Nat} {cs : List Value} {x : DataW H × List MemPlace} (h : DataW.trod enc Try.prog w 0 (fun _ => true) true m 23 cs = some x) : ∃ p : Nat, p < 256 ∧ cs = (padC (p : Int)).toList := by
  obtain ⟨xs, n, _, rfl, hl, hxl, hf⟩ := DataW.trod_struct Try.underlying23 h
  obtain ⟨c0, rfl⟩ := list1 (hl.trans (by kernel_rfl))
  have k5 : Try.prog.cellsOf 5 = 1 := by kernel_rfl
  have g0 := hf 0 _ rfl
  simp [k5] at g0
  obtain ⟨y0, e0⟩ := some_of (show xs.length = 1 from hxl) (show 0 < 1 by decide)
  obtain ⟨z, q0, _, wz⟩ := DataW.trod_int Try.underlying5 (g0.trans e0)
  simp at q0
  subst q0
  have := wf_u8 wz
  exact ⟨z.toNat, by omega, by rw [show ((z.toNat : Nat) : Int) = z by omega]; rfl⟩
theorem openPd {H : Type} {enc : TypeId × Value → H} {w : World} {m : Nat} {cs : List Value} {x : DataW H × List MemPlace} (h : DataW.trod enc Try.prog w 0 (fun _ => true) true m 28 cs = some x) : ∃ d : Pd, cs = (pdC d).toList := by
  obtain ⟨xs, n, _, rfl, hl, hxl, hf⟩ := DataW.trod_struct Try.underlying28 h
  obtain ⟨c0, c1, c2, c3, c4, c5, c6, c7, rfl⟩ := list8 (hl.trans (by kernel_rfl))
  have k5 : Try.prog.cellsOf 5 = 1 := by kernel_rfl
  have k4 : Try.prog.cellsOf 4 = 1 := by kernel_rfl
  have k24 : Try.prog.cellsOf 24 = 1 := by kernel_rfl
  have g0 := hf 0 _ rfl
  have g1 := hf 1 _ rfl
  have g2 := hf 2 _ rfl
  have g3 := hf 3 _ rfl
  have g4 := hf 4 _ rfl
  have g5 := hf 5 _ rfl
  have g6 := hf 6 _ rfl
  have g7 := hf 7 _ rfl
  simp [k5] at g0
  simp [k24] at g1
  simp [k4] at g2
  simp [k4] at g3
  simp [k4] at g4
  simp [k5] at g5
  simp [k5] at g6
  simp [k4] at g7
  have hx8 : xs.length = 8 := hxl
  obtain ⟨y0, e0⟩ := some_of hx8 (show 0 < 8 by decide)
  obtain ⟨y1, e1⟩ := some_of hx8 (show 1 < 8 by decide)
  obtain ⟨y2, e2⟩ := some_of hx8 (show 2 < 8 by decide)
  obtain ⟨y3, e3⟩ := some_of hx8 (show 3 < 8 by decide)
  obtain ⟨y4, e4⟩ := some_of hx8 (show 4 < 8 by decide)
  obtain ⟨y5, e5⟩ := some_of hx8 (show 5 < 8 by decide)
  obtain ⟨y6, e6⟩ := some_of hx8 (show 6 < 8 by decide)
  obtain ⟨y7, e7⟩ := some_of hx8 (show 7 < 8 by decide)
  obtain ⟨z0, q0, _, _⟩ := DataW.trod_int Try.underlying5 (g0.trans e0)
  obtain ⟨z1, q1, _, _⟩ := DataW.trod_int Try.underlying24 (g1.trans e1)
  obtain ⟨z2, q2, _⟩ := DataW.trod_bool Try.underlying4 (g2.trans e2)
  obtain ⟨z3, q3, _⟩ := DataW.trod_bool Try.underlying4 (g3.trans e3)
  obtain ⟨z4, q4, _⟩ := DataW.trod_bool Try.underlying4 (g4.trans e4)
  obtain ⟨z5, q5, _, _⟩ := DataW.trod_int Try.underlying5 (g5.trans e5)
  obtain ⟨z6, q6, _, _⟩ := DataW.trod_int Try.underlying5 (g6.trans e6)
  obtain ⟨z7, q7, _⟩ := DataW.trod_bool Try.underlying4 (g7.trans e7)
  simp at q0 q1 q2 q3 q4 q5 q6 q7
  subst q0 q1 q2 q3 q4 q5 q6 q7
  exact ⟨⟨z0, z1, z2, z3, z4, z5, z6, z7⟩, rfl⟩
/-- A row of numbers that came in: where it lies. -/
def RowIn (w : World) (a : Option Addr) (l : List Int) : Prop := LiesI w a l ∧ ∀ ad, a = some ad → 0 < l.length → ad.block < w.heap.size
theorem openInts {H : Type} {enc : TypeId × Value → H} {w : World} {m : Nat} {a : Option Addr} {len cap : Nat} {x : DataW H × List MemPlace} (hf : DataW.trod enc Try.prog w 0 (fun _ => true) true m 31 [.slice a len cap] = some x) : len ≤ maxLen ∧ ∃ l : List Int, l.length = len ∧ RowIn w a l := by
  rcases open_ints Try.underlying31 Try.underlying3 (by kernel_rfl) hf with ⟨hcs, _⟩ | ⟨x, l, c, zs, hcs, _, hl, hm, hz, _, hcell, hwz⟩
  · simp at hcs
    obtain ⟨rfl, rfl, rfl⟩ := hcs
    exact ⟨Nat.zero_le _, [], rfl, fun j v hj => by simp at hj, fun _ h _ => by cases h⟩
  · simp at hcs
    obtain ⟨rfl, rfl, rfl⟩ := hcs
    have hzl : zs.length = cap := by simpa using hz
    refine ⟨by omega, zs.take len, by rw [List.length_take]; omega, ?_⟩
    obtain ⟨g, off, spot⟩ := x
    by_cases h0 : len = 0
    · subst h0
      exact ⟨fun j v hj => by simp at hj, fun _ _ h => by simp at h⟩
    · have c0 := hcell 0 (by omega)
      rw [show (⟨g, off, spot⟩ : Addr).add 0 = ⟨g, off, spot⟩ from rfl] at c0
      have hs : spot = none := by
        cases spot with
        | none => rfl
        | some s =>
          exfalso
          unfold World.cell? at c0
          split at c0 <;> simp at c0
      subst hs
      refine ⟨fun j v hj => ⟨g, off, rfl, ?_⟩, fun ad h _ => by cases h; exact World.block_lt_of_cell? w _ c0⟩
      have hjl := (List.getElem?_eq_some_iff.1 hj).1
      rw [List.length_take] at hjl
      have hc := hcell j (by omega)
      rw [Addr.add_lit] at hc
      rw [hc]
      rw [List.getElem?_take, if_pos (by omega)] at hj
      rw [List.getD_eq_getElem?_getD, hj]
      rfl
end Go.Proofs.Ytabhhmkbcnabmaa
