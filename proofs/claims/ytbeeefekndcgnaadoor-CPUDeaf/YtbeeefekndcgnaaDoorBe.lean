/- CPUDeaf, whole. -/
import Derived.Test.YtbeeefekndcgnaaDoorBa
import Derived.Test.YtbeeefekndcgnaaDoorBb
import Derived.Test.YtbeeefekndcgnaaDoorBc
import Derived.Test.YtbeeefekndcgnaaDoorBd
namespace Go.Proofs.YtbeeefekndcgnaaDoor
open Go Go.RowKit
set_option linter.unusedVariables false

theorem drive_run {c : Cp} {m : Nat} (h : checkB c = true) (hm : m = 0) : driveM c m = runM c := by
  unfold driveM
  rw [if_pos h, if_pos hm]
theorem run_rd {c : Cp} (h : c.Ph = 2 ∨ c.Ph = 3) (k : c.Op / 16 = 3 ∨ c.Op / 16 = 12) : (runM c).Rd = true := by
  have e : (runM c).Rd = rrdB c.Op := by
    unfold runM
    rcases h with h | h <;> simp only [h] <;> rfl
  rw [e]
  unfold rrdB
  rw [if_pos (by omega)]
theorem deaf_walk (w : World) (c : Cp) (hc : c.wf) (p : Pn) (hp : p.wf) (o : Pn) (ho : o.wf) (tb : Tabs w) : Calls Tryd.prog 4 #[.agg (cpC c), .agg (pnC p), .agg (pnC o)] w fun e w' => e = .returned (.bool true) ∧ Below w.heap.size w w' := by
  rcases hch : checkB c with _ | _
  · exact deaf_no w c hc p hp o ho tb hch
  by_cases h3 : 3 < p.Mode
  · exact deaf_mode w c hc p hp o ho tb hch h3
  rcases (show p.Mode = 1 ∨ p.Mode = 2 ∨ p.Mode = 3 ∨ p.Mode = 0 by omega) with hm | hm | hm | hm
  · exact deaf_m1 w c hc p hp o ho tb hch _ rfl _ rfl hm (congrArg cpC (step_data hch (fun h => by omega))) (congrArg cpC (step_ef (fun h => by omega))) (congrArg cpC (step_lines (.inr (.inl hm))))
  · exact deaf_m2 w c hc p hp o ho tb hch _ rfl _ rfl hm (congrArg cpC (step_data hch (fun h => by omega))) (congrArg cpC (step_ef (fun h => by omega))) (congrArg cpC (step_lines (.inl hm)))
  · exact deaf_m3 w c hc p hp o ho tb hch _ rfl _ rfl hm (congrArg cpC (step_data hch (fun h => by omega))) (congrArg cpC (step_ef (fun h => by omega)))
  have hmay := (checkB_iff c).1 hch
  obtain ⟨m1, m2, m3, m4, m5, m6, m7⟩ := hmay
  have hD : driveM c p.Mode = runM c := drive_run hch hm
  by_cases q1 : c.Ph = 1
  · exact deaf_p1 w c hc p hp o ho tb hch _ rfl _ rfl hm q1 (congrArg cpC (step_ef (fun _ h => by omega))) (congrArg cpC (step_lines (.inr (.inr ⟨hm, .inl q1⟩))))
  by_cases q3 : c.Ph = 3
  · exact deaf_p3 w c hc p hp o ho tb hch _ rfl _ rfl hm q3 (by rw [hD]; exact run_rd (.inr q3) (.inr (m5 q3))) (congrArg cpC (step_ef (fun _ h => by omega)))
  by_cases q2 : c.Ph = 2
  case neg => exact deaf_p4 w c hc p hp o ho tb hch _ rfl _ rfl hm q1 q2 q3 (congrArg cpC (step_data hch (fun _ => ⟨q1, fun h => by omega⟩))) (congrArg cpC (step_ef (fun _ h => by omega)))
  have ed : ∀ (h2 : (driveM c p.Mode).Rd = false) (h34 : (driveM c p.Mode).Wr = false ∨ (driveM c p.Mode).Own = true), cpC (stepM c { p with Data := o.Data }) = cpC (stepM c p) := fun h2 h34 => congrArg cpC (step_data hch (fun _ => ⟨q1, fun _ => by rw [hD] at h2 h34; exact ⟨h2, h34⟩⟩))
  by_cases kB : 52 ≤ c.Op ∧ c.Op ≤ 63
  · have g2 : (driveM c p.Mode).Rd = true := by rw [hD]; exact run_rd (.inl q2) (.inl (by omega))
    by_cases k3 : 4 ≤ c.Op % 8
    · exact deaf_p2Bt w c hc p hp o ho tb hch _ rfl _ rfl hm q2 kB.1 kB.2 k3 g2
    · exact deaf_p2Gt w c hc p hp o ho tb hch _ rfl _ rfl hm q2 kB.1 kB.2 (by omega) g2 (congrArg cpC (step_ef (fun _ _ _ => by omega)))
  by_cases kD : 192 ≤ c.Op ∧ c.Op ≤ 207
  · have g2 : (driveM c p.Mode).Rd = true := by rw [hD]; exact run_rd (.inl q2) (.inr (by omega))
    exact deaf_p2Dt w c hc p hp o ho tb hch _ rfl _ rfl hm q2 kD.1 kD.2 g2 (congrArg cpC (step_ef (fun _ _ _ => by omega))) (congrArg cpC (step_lines (.inr (.inr ⟨hm, .inr ⟨q2, by omega⟩⟩))))
  have e2 : cpC (stepM c { p with EF := o.EF }) = cpC (stepM c p) := congrArg cpC (step_ef (fun _ _ _ => by omega))
  rcases (show c.Op < 52 ∨ (63 < c.Op ∧ c.Op < 192) ∨ 207 < c.Op by omega) with k | ⟨k, k'⟩ | k
  · rcases g2 : (driveM c p.Mode).Rd with _ | _
    · rcases g3 : (driveM c p.Mode).Wr with _ | _
      · exact deaf_p2Af w c hc p hp o ho tb hch _ rfl _ rfl hm q2 k g2 g3 (ed g2 (.inl g3)) e2
      · rcases g4 : (driveM c p.Mode).Own with _ | _
        · exact deaf_p2Ab w c hc p hp o ho tb hch _ rfl _ rfl hm q2 k g2 g3 g4 e2
        · exact deaf_p2Ao w c hc p hp o ho tb hch _ rfl _ rfl hm q2 k g2 g3 g4 (ed g2 (.inr g4)) e2
    · exact deaf_p2At w c hc p hp o ho tb hch _ rfl _ rfl hm q2 k g2 e2
  · rcases g2 : (driveM c p.Mode).Rd with _ | _
    · rcases g3 : (driveM c p.Mode).Wr with _ | _
      · exact deaf_p2Cf w c hc p hp o ho tb hch _ rfl _ rfl hm q2 k k' g2 g3 (ed g2 (.inl g3)) e2
      · rcases g4 : (driveM c p.Mode).Own with _ | _
        · exact deaf_p2Cb w c hc p hp o ho tb hch _ rfl _ rfl hm q2 k k' g2 g3 g4 e2
        · exact deaf_p2Co w c hc p hp o ho tb hch _ rfl _ rfl hm q2 k k' g2 g3 g4 (ed g2 (.inr g4)) e2
    · exact deaf_p2Ct w c hc p hp o ho tb hch _ rfl _ rfl hm q2 k k' g2 e2
  · rcases g2 : (driveM c p.Mode).Rd with _ | _
    · rcases g3 : (driveM c p.Mode).Wr with _ | _
      · exact deaf_p2Ef w c hc p hp o ho tb hch _ rfl _ rfl hm q2 k g2 g3 (ed g2 (.inl g3)) e2
      · rcases g4 : (driveM c p.Mode).Own with _ | _
        · exact deaf_p2Eb w c hc p hp o ho tb hch _ rfl _ rfl hm q2 k g2 g3 g4 e2
        · exact deaf_p2Eo w c hc p hp o ho tb hch _ rfl _ rfl hm q2 k g2 g3 g4 (ed g2 (.inr g4)) e2
    · exact deaf_p2Et w c hc p hp o ho tb hch _ rfl _ rfl hm q2 k g2 e2
end Go.Proofs.YtbeeefekndcgnaaDoor
