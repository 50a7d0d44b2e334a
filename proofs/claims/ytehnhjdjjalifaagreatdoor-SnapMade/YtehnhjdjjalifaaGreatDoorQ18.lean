/- The laws: names; there and back. -/
import Derived.Test.YtehnhjdjjalifaaGreatDoorQ17
namespace Go.Proofs.YtehnhjdjjalifaaGreatDoor
open Go Go.RowKit Go.Shelf
set_option linter.unusedVariables false
set_option maxHeartbeats 4000000
set_option maxRecDepth 20000

theorem sv_ok (w : World) (tb : Hid (Tbs w)) (s : Bd) (h : chkB s = 0) (P : List UInt8) (hP : savB s = P) : ∀ y M, Below w.heap.size w y → BL y M s → Calls Tryz.prog 7 #[.agg M] y fun e w' => ∃ sp cap, e = .returned (.tuple #[.slice sp P.length cap, .int .i64 0]) ∧ Hid (Below y.heap.size y w' ∧ LB w' sp P ∧ P.length ≤ cap ∧ OwnL 5 1 cB y.heap.size w' (.slice sp P.length cap) P) := fun y M hy hM => (psave_any y (tb.out.below hy) M s hM).mono fun e w' k => by
  rcases k with ⟨_, v, e1, k⟩ | ⟨k, _⟩
  · rw [hP] at k
    obtain ⟨sp, cap, hv, hb, _, _, hc⟩ := k.out.own.open kByte.len
    subst hv
    exact ⟨sp, cap, e1, k.out.low, hb, hc, k.out.own⟩
  · exact absurd h k
theorem sv_no (w : World) (tb : Hid (Tbs w)) (s : Bd) (h : chkB s ≠ 0) : ∀ y M, Below w.heap.size w y → BL y M s → Calls Tryz.prog 7 #[.agg M] y fun e w' => e = .returned (.tuple #[.slice none 0 0, .int .i64 212]) ∧ Hid (Below y.heap.size y w') := fun y M hy hM => (psave_any y (tb.out.below hy) M s hM).mono fun e w' k => by
  rcases k with ⟨k, _⟩ | ⟨_, k⟩
  · exact absurd k h
  · exact k
theorem lo_ok (w : World) (tb : Hid (Tbs w)) (l : List UInt8) (s : Bd) (hn : l.length ≤ 4000000000) (h1 : formB l = true) (h2 : sumOk l = true) (h3 : bdOf l = s) (h4 : chkB s = 0) : ∀ y sp cap, Below w.heap.size w y → LB y sp l → l.length ≤ cap → Calls Tryz.prog 11 #[.slice sp l.length cap] y fun e w' => ∃ M, e = .returned (.tuple #[.agg M, .int .i64 0]) ∧ Hid (Below y.heap.size y w' ∧ BL w' M s ∧ MOk y l M w') := fun y sp cap hy hl hc => (pload_any y (tb.out.below hy) sp cap l hl hn hc).mono fun e w' h => by
  obtain ⟨M, E, e1, hb, k⟩ := zLd y h
  rcases k with ⟨_, _, _, k, hM⟩ | ⟨k, _⟩
  · subst k
    refine ⟨M, e1, hb.out, ?_, hM.out⟩
    have := hM.out.bl
    rw [h3] at this
    exact this
  · exact absurd ⟨h1, h2, by rw [h3]; exact h4⟩ k
theorem lo_no (w : World) (tb : Hid (Tbs w)) (l : List UInt8) (hn : l.length ≤ 4000000000) (h : ¬ (formB l = true ∧ sumOk l = true ∧ chkB (bdOf l) = 0)) : ∃ E : Int, (E != 0) = true ∧ (E == 0) = false ∧ ∀ y sp cap, Below w.heap.size w y → LB y sp l → l.length ≤ cap → Calls Tryz.prog 11 #[.slice sp l.length cap] y fun e w' => e = .returned (.tuple #[.agg zBd, .int .i64 E]) ∧ Hid (Below y.heap.size y w') := by
  by_cases hf : formB l = true
  · by_cases hs : sumOk l = true
    · refine ⟨212, rfl, rfl, fun y sp cap hy hl hc => (pload_any y (tb.out.below hy) sp cap l hl hn hc).mono fun e w' k => ?_⟩
      rcases k with ⟨k, _⟩ | ⟨_, k, _⟩ | ⟨_, _, _, k⟩ | ⟨_, _, k, _⟩
      · rw [hf] at k; cases k
      · rw [hs] at k; cases k
      · exact k
      · exact absurd ⟨hf, hs, k⟩ h
    · refine ⟨211, rfl, rfl, fun y sp cap hy hl hc => (pload_any y (tb.out.below hy) sp cap l hl hn hc).mono fun e w' k => ?_⟩
      rcases k with ⟨k, _⟩ | ⟨_, _, k⟩ | ⟨_, k, _⟩ | ⟨_, k, _⟩
      · rw [hf] at k; cases k
      · exact k
      · exact absurd k hs
      · exact absurd k hs
  · refine ⟨210, rfl, rfl, fun y sp cap hy hl hc => (pload_any y (tb.out.below hy) sp cap l hl hn hc).mono fun e w' k => ?_⟩
    rcases k with ⟨_, k⟩ | ⟨k, _⟩ | ⟨k, _⟩ | ⟨k, _⟩
    · exact k
    · exact absurd k hf
    · exact absurd k hf
    · exact absurd k hf
end Go.Proofs.YtehnhjdjjalifaaGreatDoor
