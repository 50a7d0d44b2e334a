/- The document's own: Save, whole. -/
import Derived.Test.YtehnhjdjjalifaaGreatDoorX4
import Derived.Test.YtehnhjdjjalifaaGreatDoorX5
namespace Go.Proofs.YtehnhjdjjalifaaGreatDoor
open Go Go.RowKit
set_option linter.unusedVariables false
set_option maxHeartbeats 4000000
set_option maxRecDepth 20000

/-- A machine that may be is one that can be saved. -/
theorem chk_fit {s : Bd} (ok : s.Ok) (h : chkB s = 0) : s.Fit ∧ 0 < s.ram.length := by
  unfold chkB at h
  split at h
  · omega
  · rename_i h1
    split at h
    · omega
    · rename_i h2
      split at h
      · rename_i h3
        exact absurd h h3
      · split at h
        · rename_i h4
          exact absurd h h4
        · rename_i h4
          have hr : chkR s = 0 := Classical.byContradiction fun e => h4 e
          have hm : 2048 ≤ s.ram.length ∧ s.ram.length ≤ 32768 ∧ s.ram.length % 2048 = 0 := Classical.byContradiction fun e => h1 e
          have ho : s.rom.length = 512 := Classical.byContradiction fun e => h2 e
          unfold chkR at hr
          by_cases a1 : s.ln < 0
          · rw [if_pos a1] at hr; omega
          rw [if_neg a1] at hr
          by_cases a2 : 261 < s.ln
          · rw [if_pos a2] at hr; omega
          rw [if_neg a2] at hr
          by_cases a3 : s.cy < 0
          · rw [if_pos a3] at hr; omega
          rw [if_neg a3] at hr
          by_cases a4 : 13 < s.cy
          · rw [if_pos a4] at hr; omega
          rw [if_neg a4] at hr
          by_cases a5 : s.gt < 0
          · rw [if_pos a5] at hr; omega
          rw [if_neg a5] at hr
          by_cases a6 : 8 < s.gt
          · rw [if_pos a6] at hr; omega
          exact ⟨⟨ok, by omega, ho, by omega, by omega, by omega⟩, by omega⟩
theorem rsave_bad (w : World) (C : Array Value) (E : Int) (hE : E ≠ 0) (sC : C.size = 35) (hC : Hid (∀ y, Below w.heap.size w y → Calls Tryz.prog 19 #[.agg C] y fun e w' => e = .returned (.int .i64 E) ∧ Below y.heap.size y w')) :
    Calls Tryz.prog 9 #[.agg C] w fun e w' => e = .returned (.tuple #[.slice none 0 0, .int .i64 212]) ∧ Below w.heap.size w w' := by
  have e0 : (E != 0) = true := by rw [bne_iff_ne]; exact hE
  have sC' : Hid (C.size = 35) := sC
  clear hE sC
  go_enter Tryz.func9, Tryz.ntmps9
  go_wp2_with (first
    | ((with_reducible refine gen_world (w.alloc (.cells C 34)) (Fm w [(w.heap.size, C, 34)]) ?_ ?_); exact Fm.one w _ _; intro y0 K0)
    | ((with_reducible refine at_load rtBd w.heap.size C ?_ ?_ (.tmp 1) ?_ ?_ ?_ ?_); exact K0.out.bx 0 _ _ _ rfl; exact sC'.out; kernel_rfl; rfl; rfl)
    | (go_at_call 19; refine (hC.out y0 K0.out.low).mono ?_; rintro e y1 ⟨rfl, H⟩; have K1 : Hid (Fm w [(w.heap.size, C, 34)] y1) := K0.out.below H; clear H))
  go_ret2
  exact ⟨rfl, K1.out.low⟩
/-- What the document's Save answers of any machine. -/
def SvE (w : World) (s : Bd) (e : Ending) (w' : World) : Prop := (chkB s = 0 ∧ ∃ v, e = .returned (.tuple #[v, .int .i64 0]) ∧ Hid (KL 5 1 cB w v (savB s) w')) ∨ (chkB s ≠ 0 ∧ e = .returned (.tuple #[.slice none 0 0, .int .i64 212]) ∧ Hid (Below w.heap.size w w'))
theorem rsave_any (w : World) (C : Array Value) (s : Bd) (hs : Hid (BL w C s)) (hR : (s.ram.length : Int) ≤ 9223372036854775807) (hO : (s.rom.length : Int) ≤ 9223372036854775807) :
    Calls Tryz.prog 9 #[.agg C] w (SvE w s) := by
  have hC : Hid (∀ y, Below w.heap.size w y → Calls Tryz.prog 19 #[.agg C] y fun e w' => e = .returned (.int .i64 (chkB s)) ∧ Below y.heap.size y w') := fun y hy => chk8_any y C s (hs.out.below hy) hR hO
  by_cases h : chkB s = 0
  · obtain ⟨hf, h0⟩ := chk_fit hs.out.ok h
    rw [h] at hC
    exact (rsave_ok w C s hs hf h0 hC).mono fun e w' k => .inl ⟨h, k⟩
  · exact (rsave_bad w C _ h hs.out.size hC).mono fun e w' k => .inr ⟨h, k⟩
end Go.Proofs.YtehnhjdjjalifaaGreatDoor
