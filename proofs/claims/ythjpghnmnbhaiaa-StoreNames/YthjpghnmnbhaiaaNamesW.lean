/- vesperlaw03.StoreNames, walked. -/
import Derived.Test.YthjpghnmnbhaiaaAwake
namespace Go.Proofs.Ythjpghnmnbhaiaa
open Go Go.RowKit
set_option maxHeartbeats 400000
theorem names_any (w : World) : Calls Try.prog 3 #[] w fun e w' => e = .returned (.bool true) ∧ Below w.heap.size w w' := by
  go_enter Try.func3, Try.ntmps3
  go_wp2_with (go_at_call 8; refine (awake_any _).mono ?_; rintro e w1 ⟨rfl, hb⟩)
  go_ret
  exact ⟨rfl, hb⟩
end Go.Proofs.Ythjpghnmnbhaiaa
