/- A record's head, by the document. -/
import Derived.Test.YtoajmicdphffnaaDoorKe
import Derived.Test.YtoajmicdphffnaaDoorXp
namespace Go.Proofs.YtoajmicdphffnaaDoor
open Go Go.RowKit
set_option linter.unusedVariables false
set_option maxHeartbeats 1000000
set_option maxRecDepth 20000

theorem rhead_any (w : World) (r : Rc) (next : Int) (g : Rr r) (hm : mayR r = true) : Calls Tryd.prog 44 #[.agg (rcC r), .int .u16 next] w fun e w' => e = .returned (.int .u8 (headR r next)) ∧ Below w.heap.size w w' := by
  have hF : Hid (Fm w [(w.heap.size, rcC r, 45)] (w.alloc (.cells (rcC r) 45))) := Fm.one w _ _
  obtain ⟨m1, m2, m3, m4⟩ := (may_iff r).1 hm
  have c0 := g.c0
  have mo0 := g.m0
  unfold headR farR
  obtain ⟨co, hco⟩ : ∃ x, r.co = x := ⟨_, rfl⟩
  obtain ⟨ad, had⟩ : ∃ x, r.ad = x := ⟨_, rfl⟩
  obtain ⟨po, hpo⟩ : ∃ x, r.po = x := ⟨_, rfl⟩
  obtain ⟨mo, hmo⟩ : ∃ x, r.mo = x := ⟨_, rfl⟩
  obtain ⟨re, hre⟩ : ∃ x, r.re = x := ⟨_, rfl⟩
  obtain ⟨wr, hwr⟩ : ∃ x, r.wr = x := ⟨_, rfl⟩
  obtain ⟨q, hq⟩ : ∃ x, r.q = x := ⟨_, rfl⟩
  rw [hco, had, hpo, hmo, hre, hwr, hq]
  rw [hco] at m1 c0
  rw [hmo] at m3 mo0
  obtain ⟨b1, q1⟩ : ∃ b, (ad != next) = b := ⟨_, rfl⟩
  obtain ⟨b2, q2⟩ : ∃ b, (po != 0) = b := ⟨_, rfl⟩
  have e1 : decide (ad ≠ next) = b1 := by rw [← q1, Bool.eq_iff_iff]; simp
  have e2 : decide (po ≠ 0) = b2 := by rw [← q2, Bool.eq_iff_iff]; simp
  rw [e1, e2]
  replace hco : Hid _ := hco
  replace had : Hid _ := had
  replace hpo : Hid _ := hpo
  replace hmo : Hid _ := hmo
  replace hre : Hid _ := hre
  replace hwr : Hid _ := hwr
  replace hq : Hid _ := hq
  clear e1 e2 m2 m4 hm g
  cases re <;> cases wr <;> cases q <;> cases b1 <;> cases b2
  all_goals
    go_enter Tryd.func44, Tryd.ntmps44
    go_wp2_with ((with_reducible refine gen_world (w.alloc (.cells (rcC r) 45)) (Fm w [(w.heap.size, rcC r, 45)]) hF.out ?_); intro y K; have d0 := (K.out.bx 0 _ _ _ rfl).c 0 _ (rcC_co r); rw [hco.out] at d0; have d1 := (K.out.bx 0 _ _ _ rfl).c 1 _ (rcC_ad r); rw [had.out] at d1; have d3 := (K.out.bx 0 _ _ _ rfl).c 3 _ (rcC_re r); rw [hre.out] at d3; have d4 := (K.out.bx 0 _ _ _ rfl).c 4 _ (rcC_wr r); rw [hwr.out] at d4; have d5 := (K.out.bx 0 _ _ _ rfl).c 5 _ (rcC_po r); rw [hpo.out] at d5; have d6 := (K.out.bx 0 _ _ _ rfl).c 6 _ (rcC_q r); rw [hq.out] at d6; have d7 := (K.out.bx 0 _ _ _ rfl).c 7 _ (rcC_mo r); rw [hmo.out] at d7)
    go_ret
    exact ⟨rint (by simp only [bi, Bool.or_true, Bool.or_false, if_true, Bool.false_eq_true, if_false]; omega), K.out.low⟩
end Go.Proofs.YtoajmicdphffnaaDoor
