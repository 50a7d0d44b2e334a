/- Strokes that came in as an argument, opened. -/
import Derived.Test.YtiplellfpagclaaDoorDop
namespace Go.Proofs.YtiplellfpagclaaDoor
open Go Go.RowKit Go.ChangeShapes Go.WideShapes
set_option linter.unusedVariables false
set_option maxHeartbeats 1000000
set_option maxRecDepth 20000

theorem strokes_open {H : Type} {enc : TypeId × Value → H} {w : World} {m : Nat} {a : Option Addr} {len cap : Nat} {x : DataW H × List MemPlace} (h : DataW.trod enc Tryd.prog w 0 (fun _ => true) true m 26 [.slice a len cap] = some x) : len ≤ maxLen ∧ ∃ L : List St, L.length = len ∧ LiesL 3 cSt w a L ∧ ∀ x ∈ L, LB w x.sp x.rows ∧ x.rows.length ≤ maxLen := by
  obtain ⟨h1, _, _, L, h4, h5, h6⟩ := rows_open (s := 3) (c := cSt) (Q := fun x => LB w x.sp x.rows ∧ x.rows.length ≤ maxLen) Tryd.underlying26 (fun _ => rfl) (by decide) (by kernel_rfl) (fun _ _ _ h => openSt h) h
  exact ⟨h1, L, h4, h5, h6⟩
end Go.Proofs.YtiplellfpagclaaDoor
