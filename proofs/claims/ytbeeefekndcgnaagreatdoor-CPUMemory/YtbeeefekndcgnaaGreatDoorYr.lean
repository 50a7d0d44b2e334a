/- Run and Load whole; may it be. -/
import Derived.Test.YtbeeefekndcgnaaGreatDoorCy
import Derived.Test.YtbeeefekndcgnaaGreatDoorPl
import Derived.Test.YtbeeefekndcgnaaGreatDoorYq
namespace Go.Proofs.YtbeeefekndcgnaaGreatDoor
open Go Go.RowKit
set_option linter.unusedVariables false
set_option maxHeartbeats 1000000
set_option maxRecDepth 20000

theorem ybrun_any (w : World) (c : Cp) (hc : c.wf) (p : Pn) (hp : p.wf) (tb : Tabs w) (hm : mayM c) (d : Cp) (rest : Nat) (quiet : Bool) (hB : behindM c p = { d with Ph := rest }) (r2 : rest ≠ 2) (r3 : rest ≠ 3) (hq : quiet = decide (c.Ph = 5 ∨ c.Ph = 8)) :
    Calls Tryz.prog 21 #[.agg (cyC c p)] w fun e w' => e = .returned (.agg (cpC { d with Ph := askedM d p quiet rest })) ∧ Below w.heap.size w w' := by
  have e2 : (behindM c p).Ph ≠ 2 := by rw [hB]; exact r2
  have e3 : (behindM c p).Ph ≠ 3 := by rw [hB]; exact r3
  have eie : (behindM c p).IE = d.IE := by rw [hB]
  unfold askedM
  rcases hd : p.DI with _ | _
  · rcases ho : p.DO with _ | _
    · rcases hi : p.Int_ with _ | _
      · exact ybrun_no1 w c hc p hp tb hm e2 e3 hd ho hi _ (by rw [hB]; rfl)
      · rcases hie : d.IE with _ | _
        · exact ybrun_no2 w c hc p hp tb hm e2 e3 hd ho hi (eie.trans hie) _ (by rw [hB]; simp [hie])
        · by_cases h5 : c.Ph = 5
          · have hq' : quiet = true := by rw [hq]; simp [h5]
            subst hq'
            exact ybrun_no3 w c hc p hp tb hm e2 e3 hd ho hi (eie.trans hie) h5 _ (by rw [hB]; simp [hie])
          · by_cases h8 : c.Ph = 8
            · have hq' : quiet = true := by rw [hq]; simp [h8]
              subst hq'
              exact ybrun_no4 w c hc p hp tb hm e2 e3 hd ho hi (eie.trans hie) h8 _ (by rw [hB]; simp [hie])
            · have hq' : quiet = false := by rw [hq]; simp [h5, h8]
              subst hq'
              exact ybrun_int w c hc p hp tb hm e2 e3 hd ho hi (eie.trans hie) h5 h8 _ (by rw [hB]; simp [hie])
    · exact ybrun_do w c hc p hp tb hm e2 e3 hd ho _ (by rw [hB]; rfl)
  · exact ybrun_di w c hc p hp tb hm e2 e3 hd _ (by rw [hB]; rfl)
theorem ybrun (w : World) (c : Cp) (hc : c.wf) (p : Pn) (hp : p.wf) (tb : Tabs w) (hm : mayM c) : Calls Tryz.prog 21 #[.agg (cyC c p)] w fun e w' => e = .returned (.agg (cpC (goOnM c p))) ∧ Below w.heap.size w w' := by
  obtain ⟨h1, h2, h3, h4, h5, h6, h7⟩ := hm
  have hm' : mayM c := ⟨h1, h2, h3, h4, h5, h6, h7⟩
  unfold goOnM
  rcases (show c.Ph = 1 ∨ c.Ph = 2 ∨ c.Ph = 3 ∨ c.Ph = 4 ∨ c.Ph = 5 ∨ c.Ph = 6 ∨ c.Ph = 7 ∨ c.Ph = 8 by omega) with h | h | h | h | h | h | h | h <;> simp only [h]
  · exact ybrun_q2 w c hc p hp tb hm' (by unfold behindM; simp only [h]) _ (by unfold behindM; simp only [h])
  · by_cases h12 : c.Op / 16 = 12
    · rw [if_pos h12]; exact ybrun_q3 w c hc p hp tb hm' (by unfold behindM; simp only [h]; rw [if_pos h12]) _ (by unfold behindM; simp only [h]; rw [if_pos h12])
    · rw [if_neg h12]
      by_cases h0 : c.Op = 0
      · rw [if_pos h0]; exact ybrun_any w c hc p hp tb hm' (doesM c p) 4 false (by unfold behindM; simp only [h]; rw [if_neg h12, if_pos h0]) (by decide) (by decide) (by simp [h])
      · rw [if_neg h0]; exact ybrun_any w c hc p hp tb hm' (doesM c p) 1 false (by unfold behindM; simp only [h]; rw [if_neg h12, if_neg h0]) (by decide) (by decide) (by simp [h])
  · exact ybrun_any w c hc p hp tb hm' (long2M c p) 1 false (by unfold behindM; simp only [h]) (by decide) (by decide) (by simp [h])
  · exact ybrun_any w c hc p hp tb hm' c 4 false (by unfold behindM; simp only [h]) (by decide) (by decide) (by simp [h])
  · exact ybrun_any w c hc p hp tb hm' (begunM c) 1 true (by unfold behindM; simp only [h]) (by decide) (by decide) (by simp [h])
  · exact ybrun_any w c hc p hp tb hm' (c.up 0) 1 false (by unfold behindM; simp only [h]) (by decide) (by decide) (by simp [h])
  · exact ybrun_any w c hc p hp tb hm' (c.up 0) 1 false (by unfold behindM; simp only [h]) (by decide) (by decide) (by simp [h])
  · have e : askedM c p true 1 = askedM { c with T := 16 * (c.X : Int) + c.P, P := 1, X := 2, IE := false } p true 1 := by unfold askedM; simp
    rw [e]
    exact ybrun_any w c hc p hp tb hm' { c with T := 16 * (c.X : Int) + c.P, P := 1, X := 2, IE := false } 1 true (by unfold behindM; simp only [h]) (by decide) (by decide) (by simp [h])
def loadingM (c : Cp) : Cp := if c.Ph = 5 ∨ c.Ph = 6 then c else { c with Ph := 4, Op := 0, B := 0 }
theorem loadingM_may (c : Cp) (hm : mayM c) : mayM (loadingM c) := by
  unfold loadingM
  by_cases h : c.Ph = 5 ∨ c.Ph = 6
  · rw [if_pos h]; exact hm
  · rw [if_neg h]
    obtain ⟨h1, h2, h3, h4, h5, h6, h7⟩ := hm
    exact ⟨h1, h2, by show (1 : Nat) ≤ 4; decide, by show (4 : Nat) ≤ 8; decide, fun h => absurd (show (4 : Nat) = 3 from h) (by decide), fun _ => rfl, fun _ => rfl⟩
theorem loadingM_wf (c : Cp) (hc : c.wf) : (loadingM c).wf := by
  unfold loadingM
  by_cases h : c.Ph = 5 ∨ c.Ph = 6
  · rw [if_pos h]; exact hc
  · rw [if_neg h]; exact ⟨hc.R, hc.D, hc.P, hc.X, hc.T, by show (0 : Nat) < 256; decide, by show (0 : Int) ≤ 0 ∧ (0 : Int) < 256; decide, by show (4 : Nat) < 256; decide⟩
theorem ybload (w : World) (c : Cp) (hc : c.wf) (p : Pn) (hp : p.wf) (tb : Tabs w) (hm : mayM c) : Calls Tryz.prog 20 #[.agg (cyC (loadingM c) p)] w fun e w' => e = .returned (.agg (cpC (loadM c p))) ∧ Below w.heap.size w w' := by
  have hm' := loadingM_may c hm
  have hw' := loadingM_wf c hc
  obtain ⟨h1, h2, h3, h4, h5, h6, h7⟩ := hm
  unfold loadM
  rcases hd : p.DI with _ | _
  · refine ybloadfalse w (loadingM c) hw' p hp tb hm' hd _ ?_
    unfold behindM loadingM
    rcases (show c.Ph = 1 ∨ c.Ph = 2 ∨ c.Ph = 3 ∨ c.Ph = 4 ∨ c.Ph = 5 ∨ c.Ph = 6 ∨ c.Ph = 7 ∨ c.Ph = 8 by omega) with h | h | h | h | h | h | h | h <;> simp [h]
  · refine ybloadtrue w (loadingM c) hw' p hp tb hm' hd _ ?_
    unfold behindM loadingM
    rcases (show c.Ph = 1 ∨ c.Ph = 2 ∨ c.Ph = 3 ∨ c.Ph = 4 ∨ c.Ph = 5 ∨ c.Ph = 6 ∨ c.Ph = 7 ∨ c.Ph = 8 by omega) with h | h | h | h | h | h | h | h <;> simp [h]
theorem ymaybe (w : World) (c : Cp) (hc : c.wf) (tb : Tabs w) : Calls Tryz.prog 15 #[.agg (cpC c)] w fun e w' => e = .returned (.bool (checkB c)) ∧ Below w.heap.size w w' := by
  have hL := fun v t => yislong v c.Op hc.Op t
  have hB : Hid (Below w.heap.size w (w.alloc (.cells (cpC c) 26))) := below1 _ _
  have hY : Hid (BoxC (w.alloc (.cells (cpC c) 26)) w.heap.size c) := BoxC.new w c
  obtain ⟨R, hR⟩ : ∃ R, Hid (checkB c = R) := ⟨_, (rfl : checkB c = checkB c)⟩
  rw [hR.out]
  have hw : Hid c.wf := hc
  have tb' : Hid (Tabs w) := tb
  clear hc tb
  go_enter Tryz.func15, Tryz.ntmps15
  go_wp2_with (first
    | (refine gen_world (w.alloc (.cells (cpC c) 26)) (fun y => BoxC y w.heap.size c ∧ Below w.heap.size w y) ⟨hY.out, hB.out⟩ ?_; intro y K; have d18 := K.out.1.fP; have d19 := K.out.1.fX; have d23 := K.out.1.fOp; have d24 := K.out.1.fB; have d25 := K.out.1.fPh)
    | (go_at_call 24; refine (hL _ (tb'.out.below K.out.2)).mono ?_; rintro e v1 ⟨rfl, hb1⟩; replace K : Hid (BoxC v1 w.heap.size c ∧ Below w.heap.size w v1) := ⟨K.out.1.below hb1, K.out.2.trans (hb1.mono K.out.2.size)⟩))
  all_goals go_ret
  all_goals refine ⟨ret_bool ?_, K.out.2⟩
  all_goals rw [← hR.out]
  all_goals have := hw.out.B
  all_goals clear hR hL K tb' hw hB hY
  all_goals by_cases hb : checkB c = true
  all_goals first
    | (rw [hb]; done)
    | (rw [Bool.not_eq_true] at hb; rw [hb]; done)
    | (have hm := (checkB_iff c).1 hb; rw [hb]; clear hb; unfold mayM at hm; (try simp only [decide_eq_true_eq, beq_iff_eq, bne_iff_ne, beq_eq_false_iff_ne, bne_eq_false_iff_eq] at *); first | omega | (exfalso; omega))
    | (have hm : ¬ mayM c := fun k => hb ((checkB_iff c).2 k); rw [Bool.not_eq_true] at hb; rw [hb]; clear hb; unfold mayM at hm; (try simp only [decide_eq_false_iff_not, beq_iff_eq, beq_eq_false_iff_ne, bne_eq_false_iff_eq] at *); first | omega | (exfalso; omega))
end Go.Proofs.YtbeeefekndcgnaaGreatDoor
