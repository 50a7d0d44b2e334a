/- A cycle's sums by the table; SAV's byte; N twice. -/
import Derived.Test.YtbeeefekndcgnaaGreatDoorCy
import Derived.Test.YtbeeefekndcgnaaGreatDoorPl
import Derived.Test.YtbeeefekndcgnaaGreatDoorYi
import Derived.Test.YtbeeefekndcgnaaGreatDoorTail
namespace Go.Proofs.YtbeeefekndcgnaaGreatDoor
open Go Go.RowKit
set_option linter.unusedVariables false
set_option maxHeartbeats 1000000
set_option maxRecDepth 20000

theorem crS_lt (q : Nat) (h : q < 16) : crS q < 256 := by revert q; decide +kernel
theorem plS_lt (q : Nat) (h : q < 16) : plS q < 256 := by revert q; decide +kernel
theorem ycarry (w : World) (c : Cp) (hc : c.wf) (p : Pn) (hp : p.wf) (tb : Tabs w) (hP : c.P < 16) : Calls Tryz.prog 97 #[.agg (cyC c p)] w fun e w' => e = .returned (.agg (cpC (csumM c p (crS (c.Op % 16))))) ∧ Below w.heap.size w w' := by
  obtain ⟨q, hq⟩ : ∃ q, c.Op % 16 = q := ⟨_, rfl⟩
  have hq16 : q < 16 := by omega
  have hn := fun v => yn v c hc p hp
  rw [hq] at hn
  rw [hq]
  have tbF : Hid (Tabs ((w.alloc (.cells (cyC c p) 52)).alloc (.cells (cpC zeroC) 26))) := tb.below (below2 w _ _)
  have hs256 := crS_lt q hq16
  obtain ⟨s, hse⟩ : ∃ s, crS q = s := ⟨_, rfl⟩
  rw [hse] at hs256 ⊢
  have hsm := fun v t => ysum v c hc p hp t hP s hs256
  have hT : Hid (∀ x, Tabs x → x.cell? ⟨10, q, none⟩ = some (.int .u8 (s : Int))) := fun x t => hse ▸ t.cr q hq16
  have ix := fun v => idx (g := 10) (off := 0) (N := 16) Tryz.underlying100 (s := 1) (by kernel_rfl) .u8 q v hq16
  simp only [Nat.zero_add, Nat.mul_one] at ix
  have zz := zeroVC
  have hF : Hid (Fy w w.heap.size c p (w.heap.size + 1) zeroC ((w.alloc (.cells (cyC c p) 52)).alloc (.cells (cpC zeroC) 26))) := Fy.start w c p
  clear hc hp hq hq16 hse hs256 tb hP
  go_enter Tryz.func97, Tryz.ntmps97
  go_wp2_with (first
    | (refine gen_world ((w.alloc (.cells (cyC c p) 52)).alloc (.cells (cpC zeroC) 26)) (Fy w w.heap.size c p (w.heap.size + 1) zeroC) hF.out ?_; intro y K))
  refine region_class_tail 6 (fun y => Fy w w.heap.size c p (w.heap.size + 1) zeroC y ∧ Tabs y) (by kernel_rfl) (by kernel_rfl) (⟨hF.out.below (below_drew (Below.refl _ _)), tbF.out.below (below_drew (Below.refl _ _))⟩) ?_
  simp only [List.take_succ_cons, List.take_zero, List.drop_succ_cons, List.drop_zero]
  refine quiet_one (.agg (cyC c p)) rfl (quiet_loadY w.heap.size c p (fun _ h => h.1.yb) _ rfl rfl) ?_
  refine quiet_one (.agg (cyC c p)) rfl (quiet_loadY w.heap.size c p (fun _ h => h.1.yb) _ rfl rfl) ?_
  refine quiet_one (.int .u8 (q : Int)) rfl (fun y hy => by
    have d := (hn y).mono fun e w' (h : _ ∧ _) => And.intro h.1 (And.intro (hy.1.below h.2) (hy.2.below h.2))
    go_simp
    all_goals exact d) ?_
  refine quiet_one (.pointer (some ⟨10, q, none⟩)) rfl (fun y hy => by go_simp) ?_
  refine quiet_one (.int .u8 (s : Int)) rfl (fun y hy => by have d := hT.out _ hy.2; go_simp) ?_
  refine quiet_one (.agg (cpC (csumM c p s))) rfl (fun y hy => by
    have d := (hsm y hy.2).mono fun e w' (h : _ ∧ _) => And.intro h.1 (And.intro (hy.1.below h.2) (hy.2.below h.2))
    go_simp
    all_goals exact d) ?_
  refine wpQuiet_nil ?_
  intro y3 K3
  replace K3 : Hid _ := K3.1
  go_simp
  go_wp2_with (first
    | (refine at_storeC (w.heap.size + 1) zeroC _ K3.out.z _ _ rfl rfl rfl rfl ?_; intro w2 hw2))
  refine retC Tryz.results97 rfl hw2.out.1 rfl ⟨rfl, K3.out.low.trans (hw2.out.2.1 _ K3.out.l2)⟩

theorem yplain (w : World) (c : Cp) (hc : c.wf) (p : Pn) (hp : p.wf) (tb : Tabs w) (hP : c.P < 16) : Calls Tryz.prog 73 #[.agg (cyC c p)] w fun e w' => e = .returned (.agg (cpC (csumM c p (plS (c.Op % 16))))) ∧ Below w.heap.size w w' := by
  obtain ⟨q, hq⟩ : ∃ q, c.Op % 16 = q := ⟨_, rfl⟩
  have hq16 : q < 16 := by omega
  have hn := fun v => yn v c hc p hp
  rw [hq] at hn
  rw [hq]
  have tbF : Hid (Tabs ((w.alloc (.cells (cyC c p) 52)).alloc (.cells (cpC zeroC) 26))) := tb.below (below2 w _ _)
  have hs256 := plS_lt q hq16
  obtain ⟨s, hse⟩ : ∃ s, plS q = s := ⟨_, rfl⟩
  rw [hse] at hs256 ⊢
  have hsm := fun v t => ysum v c hc p hp t hP s hs256
  have hT : Hid (∀ x, Tabs x → x.cell? ⟨9, q, none⟩ = some (.int .u8 (s : Int))) := fun x t => hse ▸ t.pl q hq16
  have ix := fun v => idx (g := 9) (off := 0) (N := 16) Tryz.underlying100 (s := 1) (by kernel_rfl) .u8 q v hq16
  simp only [Nat.zero_add, Nat.mul_one] at ix
  have zz := zeroVC
  have hF : Hid (Fy w w.heap.size c p (w.heap.size + 1) zeroC ((w.alloc (.cells (cyC c p) 52)).alloc (.cells (cpC zeroC) 26))) := Fy.start w c p
  clear hc hp hq hq16 hse hs256 tb hP
  go_enter Tryz.func73, Tryz.ntmps73
  go_wp2_with (first
    | (refine gen_world ((w.alloc (.cells (cyC c p) 52)).alloc (.cells (cpC zeroC) 26)) (Fy w w.heap.size c p (w.heap.size + 1) zeroC) hF.out ?_; intro y K))
  refine region_class_tail 6 (fun y => Fy w w.heap.size c p (w.heap.size + 1) zeroC y ∧ Tabs y) (by kernel_rfl) (by kernel_rfl) (⟨hF.out.below (below_drew (Below.refl _ _)), tbF.out.below (below_drew (Below.refl _ _))⟩) ?_
  simp only [List.take_succ_cons, List.take_zero, List.drop_succ_cons, List.drop_zero]
  refine quiet_one (.agg (cyC c p)) rfl (quiet_loadY w.heap.size c p (fun _ h => h.1.yb) _ rfl rfl) ?_
  refine quiet_one (.agg (cyC c p)) rfl (quiet_loadY w.heap.size c p (fun _ h => h.1.yb) _ rfl rfl) ?_
  refine quiet_one (.int .u8 (q : Int)) rfl (fun y hy => by
    have d := (hn y).mono fun e w' (h : _ ∧ _) => And.intro h.1 (And.intro (hy.1.below h.2) (hy.2.below h.2))
    go_simp
    all_goals exact d) ?_
  refine quiet_one (.pointer (some ⟨9, q, none⟩)) rfl (fun y hy => by go_simp) ?_
  refine quiet_one (.int .u8 (s : Int)) rfl (fun y hy => by have d := hT.out _ hy.2; go_simp) ?_
  refine quiet_one (.agg (cpC (csumM c p s))) rfl (fun y hy => by
    have d := (hsm y hy.2).mono fun e w' (h : _ ∧ _) => And.intro h.1 (And.intro (hy.1.below h.2) (hy.2.below h.2))
    go_simp
    all_goals exact d) ?_
  refine wpQuiet_nil ?_
  intro y3 K3
  replace K3 : Hid _ := K3.1
  go_simp
  go_wp2_with (first
    | (refine at_storeC (w.heap.size + 1) zeroC _ K3.out.z _ _ rfl rfl rfl rfl ?_; intro w2 hw2))
  refine retC Tryz.results73 rfl hw2.out.1 rfl ⟨rfl, K3.out.low.trans (hw2.out.2.1 _ K3.out.l2)⟩

theorem ysaved0 (w : World) (c : Cp) (hc : c.wf) (p : Pn) (hp : p.wf) (hP : c.P < 16) (hX : c.X < 16) (h : c.Op = 120) : Calls Tryz.prog 61 #[.agg (cyC c p)] w fun e w' => e = .returned (.int .u8 (c.T)) ∧ Below w.heap.size w w' := by
  have e1 : ((c.Op : Int) == 120) = true := by simp; omega
  have hY : Hid (BoxY (w.alloc (.cells (cyC c p) 52)) w.heap.size c p) := BoxY.new w c p
  have hB : Hid (Below w.heap.size w (w.alloc (.cells (cyC c p) 52))) := below1 _ _
  clear hc hp hP hX h
  go_enter Tryz.func61, Tryz.ntmps61
  go_wp2_with (first
    | (refine gen_world (w.alloc (.cells (cyC c p) 52)) (fun y => BoxY y w.heap.size c p ∧ Below w.heap.size w y) ⟨hY.out, hB.out⟩ ?_; intro y K; have d23 := K.out.1.fOp; have d16 := K.out.1.fD; have d20 := K.out.1.fT)
    | (refine at_loadY w.heap.size c p K.out.1 _ rfl rfl rfl ?_))
  go_ret
  exact ⟨by first | rfl | simp, K.out.2⟩

theorem ysaved1 (w : World) (c : Cp) (hc : c.wf) (p : Pn) (hp : p.wf) (hP : c.P < 16) (hX : c.X < 16) (h : c.Op = 121) : Calls Tryz.prog 61 #[.agg (cyC c p)] w fun e w' => e = .returned (.int .u8 (16 * (c.X : Int) + c.P)) ∧ Below w.heap.size w w' := by
  have e1 : ((c.Op : Int) == 120) = false := by simp; omega
  have e2 : ((c.Op : Int) == 121) = true := by simp; omega
  have hBo := fun v => yboth v c hc p hp hP hX
  have hY : Hid (BoxY (w.alloc (.cells (cyC c p) 52)) w.heap.size c p) := BoxY.new w c p
  have hB : Hid (Below w.heap.size w (w.alloc (.cells (cyC c p) 52))) := below1 _ _
  clear hc hp hP hX h
  go_enter Tryz.func61, Tryz.ntmps61
  go_wp2_with (first
    | (refine gen_world (w.alloc (.cells (cyC c p) 52)) (fun y => BoxY y w.heap.size c p ∧ Below w.heap.size w y) ⟨hY.out, hB.out⟩ ?_; intro y K; have d23 := K.out.1.fOp; have d16 := K.out.1.fD; have d20 := K.out.1.fT)
    | (go_at_call 41; refine (hBo _).mono ?_; rintro e v1 ⟨rfl, hb1⟩; replace K : Hid (BoxY v1 w.heap.size c p ∧ Below w.heap.size w v1) := ⟨K.out.1.below hb1, K.out.2.trans (hb1.mono K.out.2.size)⟩)
    | (refine at_loadY w.heap.size c p K.out.1 _ rfl rfl rfl ?_))
  go_ret
  exact ⟨by first | rfl | simp, K.out.2⟩

theorem ysaved2 (w : World) (c : Cp) (hc : c.wf) (p : Pn) (hp : p.wf) (hP : c.P < 16) (hX : c.X < 16) (h : c.Op ≠ 120 ∧ c.Op ≠ 121) : Calls Tryz.prog 61 #[.agg (cyC c p)] w fun e w' => e = .returned (.int .u8 (c.D)) ∧ Below w.heap.size w w' := by
  have e1 : ((c.Op : Int) == 120) = false := by simp; omega
  have e2 : ((c.Op : Int) == 121) = false := by simp; omega
  have hY : Hid (BoxY (w.alloc (.cells (cyC c p) 52)) w.heap.size c p) := BoxY.new w c p
  have hB : Hid (Below w.heap.size w (w.alloc (.cells (cyC c p) 52))) := below1 _ _
  clear hc hp hP hX h
  go_enter Tryz.func61, Tryz.ntmps61
  go_wp2_with (first
    | (refine gen_world (w.alloc (.cells (cyC c p) 52)) (fun y => BoxY y w.heap.size c p ∧ Below w.heap.size w y) ⟨hY.out, hB.out⟩ ?_; intro y K; have d23 := K.out.1.fOp; have d16 := K.out.1.fD; have d20 := K.out.1.fT)
    | (refine at_loadY w.heap.size c p K.out.1 _ rfl rfl rfl ?_))
  go_ret
  exact ⟨by first | rfl | simp, K.out.2⟩

theorem ytwice (w : World) (c : Cp) (hc : c.wf) (p : Pn) (hp : p.wf) : Calls Tryz.prog 71 #[.agg (cyC c p)] w fun e w' => e = .returned (.int .u8 (17 * ((c.Op % 16 : Nat) : Int))) ∧ Below w.heap.size w w' := by
  obtain ⟨q, hq⟩ : ∃ q, c.Op % 16 = q := ⟨_, rfl⟩
  have hq16 : q < 16 := by omega
  have hn := fun v => yn v c hc p hp
  rw [hq] at hn ⊢
  have e1 : IntKind.u8.wrap ((q : Int) * 16) = (q : Int) * 16 := by rw [IntKind.wrap_u8]; omega
  have e2 : bits .or .u8 ((q : Int) * 16) (q : Int) = 17 * (q : Int) := by rw [join4 q q hq16 hq16]; omega
  have hY : Hid (BoxY (w.alloc (.cells (cyC c p) 52)) w.heap.size c p) := BoxY.new w c p
  have hB : Hid (Below w.heap.size w (w.alloc (.cells (cyC c p) 52))) := below1 _ _
  clear hc hp hq hq16
  go_enter Tryz.func71, Tryz.ntmps71
  go_wp2
  refine region_class_tail 6 (fun y => BoxY y w.heap.size c p ∧ Below w.heap.size w y) (by kernel_rfl) (by kernel_rfl) (⟨hY.out.below (below_drew (Below.refl _ _)), below_drew hB.out⟩) ?_
  simp only [List.take_succ_cons, List.take_zero, List.drop_succ_cons, List.drop_zero]
  refine quiet_one (.agg (cyC c p)) rfl (quiet_loadY w.heap.size c p (fun _ h => h.1) _ rfl rfl) ?_
  refine quiet_one (.int .u8 (q : Int)) rfl (fun y hy => by
    have d := (hn y).mono fun e w' (h : _ ∧ _) => And.intro h.1 (And.intro (hy.1.below h.2) (hy.2.trans (h.2.mono hy.2.size)))
    go_simp
    all_goals exact d) ?_
  refine quiet_one (.int .u8 ((q : Int) * 16)) rfl (fun y hy => by go_simp) ?_
  refine quiet_one (.agg (cyC c p)) rfl (quiet_loadY w.heap.size c p (fun _ h => h.1) _ rfl rfl) ?_
  refine quiet_one (.int .u8 (q : Int)) rfl (fun y hy => by
    have d := (hn y).mono fun e w' (h : _ ∧ _) => And.intro h.1 (And.intro (hy.1.below h.2) (hy.2.trans (h.2.mono hy.2.size)))
    go_simp
    all_goals exact d) ?_
  refine quiet_one (.int .u8 (17 * (q : Int))) rfl (fun y hy => by go_simp) ?_
  refine wpQuiet_nil ?_
  intro y3 K3
  replace K3 : Hid _ := K3
  go_simp
  go_wp2
  go_ret
  exact ⟨rfl, K3.out.2⟩

end Go.Proofs.YtbeeefekndcgnaaGreatDoor
