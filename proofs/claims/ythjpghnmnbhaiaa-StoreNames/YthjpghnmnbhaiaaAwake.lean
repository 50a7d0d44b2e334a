/- The document's example. -/
import Derived.Test.YthjpghnmnbhaiaaWake
import Derived.Deep.RegionWith
namespace Go.Proofs.Ythjpghnmnbhaiaa
open Go Go.RowKit
set_option linter.unusedVariables false
set_option maxHeartbeats 200000
set_option maxRecDepth 20000
theorem awake_any (w : World) : Calls Try.prog 8 #[] w fun e w' => e = .returned (.bool true) ∧ Below w.heap.size w w' := by
  go_enter Try.func8, Try.ntmps8
  go_wp2_with (first
    | (go_at_call 24; refine (rom_any _).mono ?_; rintro e w1 ⟨rfl, hk, hb⟩; have hk' : Hid _ := hk; have hb' : Hid _ := hb; clear hk hb)
    | (go_at_call 11; refine (awN w _ _ hk' hb').mono ?_; rintro e w2 ⟨rfl, K⟩)
    | (go_at_call 27; refine (awT1 w _ _ K).mono ?_; rintro e w3 ⟨⟨v, rfl⟩, K1⟩; clear K)
    | (go_at_call 31; refine (awW1 w _ _ K1).mono ?_; rintro e w3 ⟨⟨v, rfl⟩, K2⟩; clear K1)
    | (go_at_call 22; first | (refine (awL1 w _ _ K).mono ?_; rintro e w3 ⟨rfl, K⟩) | (refine (awL2 w _ _ K2).mono ?_; rintro e w3 ⟨rfl, K2⟩))
    | (go_at_call_of 29 (Value.int IntKind.u16 300); refine (awR1 w _ _ K).mono ?_; rintro e w3 ⟨rfl, K⟩)
    | (go_at_call_of 29 (Value.int IntKind.u16 32769); refine (awR2 w _ _ K).mono ?_; rintro e w3 ⟨rfl, K⟩)
    | (go_at_call_of 29 (Value.int IntKind.u16 5); refine (awR3 w _ _ K2).mono ?_; rintro e w3 ⟨rfl, K2⟩)
    | (go_at_call_of 29 (Value.int IntKind.u16 2048); refine (awR4 w _ _ K2).mono ?_; rintro e w3 ⟨rfl, K2⟩))
  go_ret
  exact ⟨rfl, K2.out.2.1⟩
end Go.Proofs.Ythjpghnmnbhaiaa
