/- What the statements' walks share. -/
import Derived.Test.YtfkifppadngmdaaG29
namespace Go.Proofs.Ytfkifppadngmdaa
open Go Go.RowKit Go.Shelf
set_option linter.unusedVariables false
set_option maxHeartbeats 1000000
set_option maxRecDepth 20000

theorem GO.offT {B : Nat} {w y : World} {C cs : Array Value} {g : Gm} {b : Nat} {t : TypeId} (h : GO B w C g) (hx : Bx w b cs t) (h8 : 5 ≠ t) (h16 : 26 ≠ t) (hk : ∀ q, q ≠ b → y.heap[q]? = w.heap[q]?) : GO B y C g := by
  obtain ⟨⟨vS, vP, vM, e, h1, h2, h3, h4⟩, ok⟩ := h
  exact ⟨⟨vS, vP, vM, e, h1.keepB fun q hq => hk q (by obtain ⟨cs', k⟩ := h1.ty q hq; exact Bx.unlike k hx h16), h2.keepB fun q hq => hk q (by obtain ⟨cs', k⟩ := h2.ty q hq; exact Bx.unlike k hx h8), h3.keepB fun q hq => hk q (by obtain ⟨cs', k⟩ := h3.ty q hq; exact Bx.unlike k hx h8), h4⟩, ok⟩
theorem dCs_one (d : Fd) : (dCs d).all (·.oneCell') = true := by
  unfold dCs byV
  simp [Value.oneCell']
theorem FL.one {w : World} {D : Array Value} {f : Fo} (h : FL w D f) : D.all (·.oneCell') = true := by
  obtain ⟨⟨sB, cB', rfl, h1⟩, h2, h3, h4⟩ := h
  unfold fCs wV
  simp [Value.oneCell']
theorem step_err (g : Gm) (f : Fo) (d : Fd) (h : g.may = true) : (stepG g f d).2.2 = 0 ∨ (stepG g f d).2.2 = 1 := by
  unfold stepG
  rw [if_pos h]
  split
  · split
    · split <;> exact .inl rfl
    · exact .inl rfl
  · exact .inr rfl
theorem step_ok {g : Gm} {f : Fo} {d : Fd} (h : (stepG g f d).2.2 = 0) : g.may = true ∧ fontG f = true ∧ d.ky ≤ 15 := by
  unfold stepG at h
  split at h
  · rename_i hm
    split at h
    · rename_i hf
      simp only [Bool.and_eq_true, decide_eq_true_eq] at hf
      exact ⟨hm, hf.1, hf.2⟩
    · simp at h
  · simp at h
theorem step_len (g : Gm) (f : Fo) (d : Fd) (n : Nat) (h : (stepG g f d).2.2 = 0) : (stepG g f d).1.st.length ≤ 4000000000 := by
  have := (may_iff.1 (step_may g f d (step_ok h).1 h)).2.2
  omega
end Go.Proofs.Ytfkifppadngmdaa
