/- The document's own: Save, whole. -/
import Derived.Test.YtehnhjdjjalifaaDoorX4
import Derived.Test.YtehnhjdjjalifaaDoorX5
namespace Go.Proofs.YtehnhjdjjalifaaDoor
open Go Go.RowKit
set_option linter.unusedVariables false
set_option maxHeartbeats 4000000
set_option maxRecDepth 20000

/-- A machine that may be is one that can be saved. -/
theorem chk_fit {s : Bd} (ok : s.Ok) (h : chkB s = 0) : s.Fit ∧ 0 < s.ram.length := by
  unfold chkB at h
  split at h
  · omega
  · rename_i h1
    split at h
    · omega
    · rename_i h2
      split at h
      · rename_i h3
        exact absurd h h3
      · split at h
        · rename_i h4
          exact absurd h h4
        · rename_i h4
          have hr : chkR s = 0 := Classical.byContradiction fun e => h4 e
          have hm : 2048 ≤ s.ram.length ∧ s.ram.length ≤ 32768 ∧ s.ram.length % 2048 = 0 := Classical.byContradiction fun e => h1 e
          have ho : s.rom.length = 512 := Classical.byContradiction fun e => h2 e
          unfold chkR at hr
          by_cases a1 : s.ln < 0
          · rw [if_pos a1] at hr; omega
          rw [if_neg a1] at hr
          by_cases a2 : 261 < s.ln
          · rw [if_pos a2] at hr; omega
          rw [if_neg a2] at hr
          by_cases a3 : s.cy < 0
          · rw [if_pos a3] at hr; omega
          rw [if_neg a3] at hr
          by_cases a4 : 13 < s.cy
          · rw [if_pos a4] at hr; omega
          rw [if_neg a4] at hr
          by_cases a5 : s.gt < 0
          · rw [if_pos a5] at hr; omega
          rw [if_neg a5] at hr
          by_cases a6 : 8 < s.gt
          · rw [if_pos a6] at hr; omega
          exact ⟨⟨ok, by omega, ho, by omega, by omega, by omega⟩, by omega⟩
/-- What the document's Save answers of any machine. -/
def SvE (w : World) (s : Bd) (e : Ending) (w' : World) : Prop := (chkB s = 0 ∧ ∃ v, e = .returned (.tuple #[v, .int .i64 0]) ∧ Hid (KL 5 1 cB w v (savB s) w')) ∨ (chkB s ≠ 0 ∧ e = .returned (.tuple #[.slice none 0 0, .int .i64 212]) ∧ Hid (Below w.heap.size w w'))
end Go.Proofs.YtehnhjdjjalifaaDoor
