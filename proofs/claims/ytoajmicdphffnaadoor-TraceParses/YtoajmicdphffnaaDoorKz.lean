/- The record that begins at a place, by the document. -/
import Derived.Test.YtoajmicdphffnaaDoorKx
import Derived.Test.YtoajmicdphffnaaDoorKy
namespace Go.Proofs.YtoajmicdphffnaaDoor
open Go Go.RowKit
set_option linter.unusedVariables false
set_option maxHeartbeats 20000000
set_option maxRecDepth 20000

theorem rrec1_any (w : World) (sp : Option Addr) (cap : Nat) (l : List UInt8) (at' : Nat) (next : Int) (hl : Hid (LiesB w sp l)) (hn : l.length ≤ 4611686018427387904) (ha : at' ≤ l.length) (n0 : 0 ≤ next) (n1 : next ≤ 65535) :
    Calls Tryd.prog 48 #[.slice sp l.length cap, .int .i64 (at' : Int), .int .u16 next] w fun e w' => ∃ s', e = .returned (.tuple #[.agg (rcC s'), .int .i64 (oneK (oneR (l.drop at') next))]) ∧ Hid ((∀ r k, oneR (l.drop at') next = some (r, k) → s' = r) ∧ Below w.heap.size w w') := by
  by_cases hend : at' = l.length
  · exact rrec1_end w sp cap l at' next hl hn ha n0 n1 hend
  obtain ⟨x, hx, _⟩ := get_drop (show at' < l.length by omega)
  by_cases h128 : 128 ≤ x.toNat
  · by_cases hlong : at' + 5 ≤ l.length
    · exact rrec1_far w sp cap l at' next hl hn ha n0 n1 x hx h128 hlong
    · exact rrec1_fshort w sp cap l at' next hl hn ha n0 n1 x hx h128 (by omega) (by omega)
  · by_cases hlong : at' + 2 ≤ l.length
    · exact rrec1_near w sp cap l at' next hl hn ha n0 n1 x hx h128 hlong
    · exact rrec1_nshort w sp cap l at' next hl hn ha n0 n1 x hx h128 (by omega) (by omega)
end Go.Proofs.YtoajmicdphffnaaDoor
