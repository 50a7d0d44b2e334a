/- The document's own: addresses, a font that may be, the byte at an address. -/
import Derived.Test.YtigiebfdaiccdaaG7
namespace Go.Proofs.Ytigiebfdaiccdaa
open Go Go.RowKit Go.Shelf
set_option linter.unusedVariables false
set_option maxHeartbeats 1000000
set_option maxRecDepth 20000

theorem inmem_any (w : World) (a : Nat) (ha : a ≤ 4000000000) : Calls Try.prog 28 #[.int .i64 (a : Int)] w fun e w' => e = .returned (.bool (inM a)) ∧ w' = w := by
  by_cases h1 : 512 ≤ a
  · obtain ⟨R, hR⟩ : ∃ R, inM a = R := ⟨_, rfl⟩
    rw [hR]
    have q1 : decide ((512 : Int) ≤ (a : Int)) = true := by simp; omega
    have q2 : decide ((a : Int) < 3744) = R := by
      rw [← hR]
      unfold inM
      simp only [decide_eq_true h1, Bool.true_and, decide_eq_decide]
      omega
    clear h1 hR
    go_enter Try.func28, Try.ntmps28
    go_wp2
    go_ret
    exact ⟨rfl, rfl⟩
  · have e0 : inM a = false := by unfold inM; simp; omega
    rw [e0]
    have q1 : decide ((512 : Int) ≤ (a : Int)) = false := by simp; omega
    clear h1
    go_enter Try.func28, Try.ntmps28
    go_wp2
    go_ret
    exact ⟨rfl, rfl⟩
/-- What 'at' answers. -/
def atV : Option UInt8 → Value
  | some b => .tuple #[byV b, .bool true]
  | none => .tuple #[.int .u8 0, .bool false]
end Go.Proofs.Ytigiebfdaiccdaa
