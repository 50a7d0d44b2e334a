/- Plays that came in as an argument, opened. -/
import Derived.Test.YteipjkjpeookaaaGreatR20
import Derived.Test.YteipjkjpeookaaaGreatJ7
namespace Go.Proofs.YteipjkjpeookaaaGreat
open Go Go.RowKit Go.ChangeShapes Go.WideShapes
set_option linter.unusedVariables false
set_option maxHeartbeats 1000000
set_option maxRecDepth 20000

theorem openPlay {H : Type} {enc : TypeId × Value → H} {w : World} {m : Nat} {cs : List Value} {x : DataW H × List MemPlace} (h : DataW.trod enc Tryz.prog w 0 (fun _ => true) true m 40 cs = some x) : ∃ p : Pl, cs = cPl p ∧ p.Ok := by
  obtain ⟨xs, n, _, rfl, hl, hxl, hf⟩ := DataW.trod_struct Tryz.underlying40 h
  have k3 : Tryz.prog.cellsOf 38 = 3 := by kernel_rfl
  have kI : Tryz.prog.cellsOf 3 = 1 := by kernel_rfl
  have hl4 : cs.length = 4 := hl.trans (by kernel_rfl)
  have g0 := hf 0 _ rfl
  have g1 := hf 1 _ rfl
  simp [k3] at g0
  simp [kI] at g1
  obtain ⟨y0, e0⟩ := some_of (show xs.length = 2 from hxl) (show 0 < 2 by decide)
  obtain ⟨y1, e1⟩ := some_of (show xs.length = 2 from hxl) (show 1 < 2 by decide)
  obtain ⟨d0, q0, h0⟩ := openFd (g0.trans e0)
  obtain ⟨tk, q1, _, hw⟩ := DataW.trod_int Tryz.underlying3 (g1.trans e1)
  refine ⟨⟨d0, tk⟩, ?_, ⟨h0, wf_i64 hw⟩⟩
  match cs, hl4 with
  | [c0, c1, c2, c3], _ =>
    simp [dCs] at q0 q1
    obtain ⟨rfl, rfl, rfl⟩ := q0
    subst q1
    rfl
theorem plays_open {H : Type} {enc : TypeId × Value → H} {w : World} {m : Nat} {a : Option Addr} {len cap : Nat} {x : DataW H × List MemPlace} (h : DataW.trod enc Tryz.prog w 0 (fun _ => true) true m 31 [.slice a len cap] = some x) : len ≤ maxLen ∧ ∃ L : List Pl, L.length = len ∧ LiesL 4 cPl w a L ∧ ∀ p ∈ L, p.Ok := by
  obtain ⟨h1, _, _, L, h4, h5, h6⟩ := rows_open (s := 4) (c := cPl) (Q := fun p => p.Ok) Tryz.underlying31 (fun _ => rfl) (by decide) (by kernel_rfl) (fun _ _ _ h => openPlay h) h
  exact ⟨h1, L, h4, h5, h6⟩
end Go.Proofs.YteipjkjpeookaaaGreat
