/- A cycle's methods whose order of evaluation is drawn: PLO, PHI, jump, branch. -/
import Derived.Test.YtbeeefekndcgnaaGreatDoorCy
import Derived.Test.YtbeeefekndcgnaaGreatDoorPl
import Derived.Test.YtbeeefekndcgnaaGreatDoorYe
import Derived.Test.YtbeeefekndcgnaaGreatDoorTail
namespace Go.Proofs.YtbeeefekndcgnaaGreatDoor
open Go Go.RowKit
set_option linter.unusedVariables false
set_option maxHeartbeats 1000000
set_option maxRecDepth 20000

theorem yputlo (w : World) (c : Cp) (hc : c.wf) (p : Pn) (hp : p.wf) : Calls Tryz.prog 66 #[.agg (cyC c p)] w fun e w' => e = .returned (.agg (cpC (c.setR (c.Op % 16) (c.R (c.Op % 16) / 256 * 256 + c.D)))) ∧ Below w.heap.size w w' := by
  obtain ⟨q, hq⟩ : ∃ q, c.Op % 16 = q := ⟨_, rfl⟩
  have hq16 : q < 16 := by omega
  have hn := fun v => yn v c hc p hp
  rw [hq] at hn
  rw [hq]
  have hr := hc.R q
  have hq' : Hid (q < 16) := hq16
  have hV := fun v => yhigh v c hc p hp
  rw [hq] at hV
  have hW := fun v => word_any (c.R q / 256) c.D v (by omega) (by omega) hc.D.1 (by have := hc.D; omega)
  have ix := fun v => idx (g := w.heap.size) (off := 0) (N := 16) Tryz.underlying23 infoR .u8 q v hq16
  simp only [Nat.zero_add, Nat.mul_one] at ix
  have hS : Hid ((cyC c p).setIfInBounds q (.int .u16 (c.R q / 256 * 256 + c.D)) = cyC (c.setR q (c.R q / 256 * 256 + c.D)) p) := cyC_setR c p q hq16 _
  have hR' : Hid (∀ b x, BoxY x b c p → x.cell? ⟨b, q, none⟩ = some (.int .u16 (c.R q))) := fun b x h => h.r q hq16
  have zz := zeroVC
  have hF : Hid (Fy w w.heap.size c p (w.heap.size + 1) zeroC ((w.alloc (.cells (cyC c p) 52)).alloc (.cells (cpC zeroC) 26))) := Fy.start w c p
  clear hc hp hq hr hq16 hq'
  go_enter Tryz.func66, Tryz.ntmps66
  go_wp2_with (first
    | (refine gen_world ((w.alloc (.cells (cyC c p) 52)).alloc (.cells (cpC zeroC) 26)) (Fy w w.heap.size c p (w.heap.size + 1) zeroC) hF.out ?_; intro y K))
  refine region_class_tail 11 (Fy w w.heap.size c p (w.heap.size + 1) zeroC) (by kernel_rfl) (by kernel_rfl) (hF.out.below (below_drew (Below.refl _ _))) ?_
  simp only [List.take_succ_cons, List.take_zero, List.drop_succ_cons, List.drop_zero]
  refine quiet_one (.agg (cyC c p)) rfl (quiet_loadY w.heap.size c p (fun _ h => h.yb) _ rfl rfl) ?_
  refine quiet_one (.int .u8 (q : Int)) rfl (fun y hy => by
    have d := (hn y).mono fun e w' (h : _ ∧ _) => And.intro h.1 (hy.below h.2)
    go_simp
    all_goals exact d) ?_
  refine quiet_one (.agg (cyC c p)) rfl (quiet_loadY w.heap.size c p (fun _ h => h.yb) _ rfl rfl) ?_
  refine quiet_one (.int .u8 (c.R q / 256)) rfl (fun y hy => by
    have d := (hV y).mono fun e w' (h : _ ∧ _) => And.intro h.1 (hy.below h.2)
    go_simp
    all_goals exact d) ?_
  refine quiet_one (.pointer (some ⟨w.heap.size, 0, none⟩)) rfl (fun y hy => by go_simp) ?_
  refine quiet_one (.pointer (some ⟨w.heap.size, 16, none⟩)) rfl (fun y hy => by go_simp) ?_
  refine quiet_one (.int .u8 c.D) rfl (fun y hy => by have d := hy.yb.fD; go_simp) ?_
  refine quiet_one (.int .u16 (c.R q / 256 * 256 + c.D)) rfl (fun y hy => by have d := (hW y).mono fun e w' (h : _ ∧ _) => And.intro h.1 (show Fy w w.heap.size c p (w.heap.size + 1) zeroC w' from h.2 ▸ hy); go_simp) ?_
  refine quiet_one (.pointer (some ⟨w.heap.size, 0, none⟩)) rfl (fun y hy => by go_simp) ?_
  refine quiet_one (.pointer (some ⟨w.heap.size, 0, none⟩)) rfl (fun y hy => by go_simp) ?_
  refine quiet_one (.pointer (some ⟨w.heap.size, q, none⟩)) rfl (fun y hy => by go_simp) ?_
  refine wpQuiet_nil ?_
  intro y3 K3
  have dR := hR'.out _ _ K3.yb
  have fR := K3.yb.fz q
  have K5 : Hid (Fy w w.heap.size (c.setR q (c.R q / 256 * 256 + c.D)) p (w.heap.size + 1) zeroC (y3.setCell ⟨w.heap.size, q, none⟩ (.int .u16 (c.R q / 256 * 256 + c.D)))) := K3.setC q _ hS.out
  clear K3
  go_simp
  go_wp2_with (first
    | (refine at_loadYC w.heap.size _ p K5.out.yb _ rfl rfl rfl ?_)
    | (refine at_storeC (w.heap.size + 1) zeroC _ K5.out.z _ _ rfl rfl rfl rfl ?_; intro w2 hw2))
  refine retC Tryz.results66 rfl hw2.out.1 rfl ⟨rfl, K5.out.low.trans (hw2.out.2.1 _ K5.out.l2)⟩

theorem yputhi (w : World) (c : Cp) (hc : c.wf) (p : Pn) (hp : p.wf) : Calls Tryz.prog 67 #[.agg (cyC c p)] w fun e w' => e = .returned (.agg (cpC (c.setR (c.Op % 16) (c.D * 256 + c.R (c.Op % 16) % 256)))) ∧ Below w.heap.size w w' := by
  obtain ⟨q, hq⟩ : ∃ q, c.Op % 16 = q := ⟨_, rfl⟩
  have hq16 : q < 16 := by omega
  have hn := fun v => yn v c hc p hp
  rw [hq] at hn
  rw [hq]
  have hr := hc.R q
  have hq' : Hid (q < 16) := hq16
  have hV := fun v => ylow v c hc p hp
  rw [hq] at hV
  have hW := fun v => word_any c.D (c.R q % 256) v hc.D.1 (by have := hc.D; omega) (by omega) (by omega)
  have ix := fun v => idx (g := w.heap.size) (off := 0) (N := 16) Tryz.underlying23 infoR .u8 q v hq16
  simp only [Nat.zero_add, Nat.mul_one] at ix
  have hS : Hid ((cyC c p).setIfInBounds q (.int .u16 (c.D * 256 + c.R q % 256)) = cyC (c.setR q (c.D * 256 + c.R q % 256)) p) := cyC_setR c p q hq16 _
  have hR' : Hid (∀ b x, BoxY x b c p → x.cell? ⟨b, q, none⟩ = some (.int .u16 (c.R q))) := fun b x h => h.r q hq16
  have zz := zeroVC
  have hF : Hid (Fy w w.heap.size c p (w.heap.size + 1) zeroC ((w.alloc (.cells (cyC c p) 52)).alloc (.cells (cpC zeroC) 26))) := Fy.start w c p
  clear hc hp hq hr hq16 hq'
  go_enter Tryz.func67, Tryz.ntmps67
  go_wp2_with (first
    | (refine gen_world ((w.alloc (.cells (cyC c p) 52)).alloc (.cells (cpC zeroC) 26)) (Fy w w.heap.size c p (w.heap.size + 1) zeroC) hF.out ?_; intro y K))
  refine region_class_tail 11 (Fy w w.heap.size c p (w.heap.size + 1) zeroC) (by kernel_rfl) (by kernel_rfl) (hF.out.below (below_drew (Below.refl _ _))) ?_
  simp only [List.take_succ_cons, List.take_zero, List.drop_succ_cons, List.drop_zero]
  refine quiet_one (.agg (cyC c p)) rfl (quiet_loadY w.heap.size c p (fun _ h => h.yb) _ rfl rfl) ?_
  refine quiet_one (.int .u8 (q : Int)) rfl (fun y hy => by
    have d := (hn y).mono fun e w' (h : _ ∧ _) => And.intro h.1 (hy.below h.2)
    go_simp
    all_goals exact d) ?_
  refine quiet_one (.pointer (some ⟨w.heap.size, 0, none⟩)) rfl (fun y hy => by go_simp) ?_
  refine quiet_one (.pointer (some ⟨w.heap.size, 16, none⟩)) rfl (fun y hy => by go_simp) ?_
  refine quiet_one (.int .u8 c.D) rfl (fun y hy => by have d := hy.yb.fD; go_simp) ?_
  refine quiet_one (.agg (cyC c p)) rfl (quiet_loadY w.heap.size c p (fun _ h => h.yb) _ rfl rfl) ?_
  refine quiet_one (.int .u8 (c.R q % 256)) rfl (fun y hy => by
    have d := (hV y).mono fun e w' (h : _ ∧ _) => And.intro h.1 (hy.below h.2)
    go_simp
    all_goals exact d) ?_
  refine quiet_one (.int .u16 (c.D * 256 + c.R q % 256)) rfl (fun y hy => by have d := (hW y).mono fun e w' (h : _ ∧ _) => And.intro h.1 (show Fy w w.heap.size c p (w.heap.size + 1) zeroC w' from h.2 ▸ hy); go_simp) ?_
  refine quiet_one (.pointer (some ⟨w.heap.size, 0, none⟩)) rfl (fun y hy => by go_simp) ?_
  refine quiet_one (.pointer (some ⟨w.heap.size, 0, none⟩)) rfl (fun y hy => by go_simp) ?_
  refine quiet_one (.pointer (some ⟨w.heap.size, q, none⟩)) rfl (fun y hy => by go_simp) ?_
  refine wpQuiet_nil ?_
  intro y3 K3
  have dR := hR'.out _ _ K3.yb
  have fR := K3.yb.fz q
  have K5 : Hid (Fy w w.heap.size (c.setR q (c.D * 256 + c.R q % 256)) p (w.heap.size + 1) zeroC (y3.setCell ⟨w.heap.size, q, none⟩ (.int .u16 (c.D * 256 + c.R q % 256)))) := K3.setC q _ hS.out
  clear K3
  go_simp
  go_wp2_with (first
    | (refine at_loadYC w.heap.size _ p K5.out.yb _ rfl rfl rfl ?_)
    | (refine at_storeC (w.heap.size + 1) zeroC _ K5.out.z _ _ rfl rfl rfl rfl ?_; intro w2 hw2))
  refine retC Tryz.results67 rfl hw2.out.1 rfl ⟨rfl, K5.out.low.trans (hw2.out.2.1 _ K5.out.l2)⟩

theorem yjump1 (w : World) (c : Cp) (hc : c.wf) (p : Pn) (hp : p.wf) (hP : c.P < 16) (hb : branchesM c p = true) : Calls Tryz.prog 89 #[.agg (cyC c p)] w fun e w' => e = .returned (.agg (cpC (c.setR c.P (c.B * 256 + p.Data)))) ∧ Below w.heap.size w w' := by
  have hbr := fun v => ybranches v c hc p hp
  rw [hb] at hbr
  have hW := fun v => word_any c.B p.Data v hc.B.1 (by have := hc.B; omega) hp.Data.1 (by have := hp.Data; omega)
  have ix := fun v => idx (g := w.heap.size) (off := 0) (N := 16) Tryz.underlying23 infoR .u8 c.P v hP
  simp only [Nat.zero_add, Nat.mul_one] at ix
  have hS : Hid ((cyC c p).setIfInBounds c.P (.int .u16 (c.B * 256 + p.Data)) = cyC (c.setR c.P (c.B * 256 + p.Data)) p) := cyC_setR c p c.P hP _
  have hR' : Hid (∀ b x, BoxY x b c p → x.cell? ⟨b, c.P, none⟩ = some (.int .u16 (c.R c.P))) := fun b x h => h.r c.P hP
  have zz := zeroVC
  have hF : Hid (Fy w w.heap.size c p (w.heap.size + 1) zeroC ((w.alloc (.cells (cyC c p) 52)).alloc (.cells (cpC zeroC) 26))) := Fy.start w c p
  clear hc hp hP hb
  go_enter Tryz.func89, Tryz.ntmps89
  go_wp2_with (first
    | (refine gen_world ((w.alloc (.cells (cyC c p) 52)).alloc (.cells (cpC zeroC) 26)) (Fy w w.heap.size c p (w.heap.size + 1) zeroC) hF.out ?_; intro y K)
    | (refine at_loadY w.heap.size c p K.out.yb _ rfl rfl rfl ?_)
    | (go_at_call 82; refine (hbr _).mono ?_; rintro e v1 ⟨rfl, hbv1⟩; replace K : Hid _ := K.out.below hbv1))
  refine region_class_tail 13 (Fy w w.heap.size c p (w.heap.size + 1) zeroC) (by kernel_rfl) (by kernel_rfl) (K.out.below (below_drew (Below.refl _ _))) ?_
  simp only [List.take_succ_cons, List.take_zero, List.drop_succ_cons, List.drop_zero]
  refine quiet_one (.pointer (some ⟨w.heap.size, 0, none⟩)) rfl (fun y hy => by go_simp) ?_
  refine quiet_one (.pointer (some ⟨w.heap.size, 18, none⟩)) rfl (fun y hy => by go_simp) ?_
  refine quiet_one (.int .u8 (c.P : Int)) rfl (fun y hy => by have d := hy.yb.fP; go_simp) ?_
  refine quiet_one (.pointer (some ⟨w.heap.size, 0, none⟩)) rfl (fun y hy => by go_simp) ?_
  refine quiet_one (.pointer (some ⟨w.heap.size, 24, none⟩)) rfl (fun y hy => by go_simp) ?_
  refine quiet_one (.int .u8 c.B) rfl (fun y hy => by have d := hy.yb.fB; go_simp) ?_
  refine quiet_one (.pointer (some ⟨w.heap.size, 26, none⟩)) rfl (fun y hy => by go_simp) ?_
  refine quiet_one (.pointer (some ⟨w.heap.size, 27, none⟩)) rfl (fun y hy => by go_simp) ?_
  refine quiet_one (.int .u8 p.Data) rfl (fun y hy => by have d := hy.yb.fData; go_simp) ?_
  refine quiet_one (.int .u16 (c.B * 256 + p.Data)) rfl (fun y hy => by have d := (hW y).mono fun e w' (h : _ ∧ _) => And.intro h.1 (show Fy w w.heap.size c p (w.heap.size + 1) zeroC w' from h.2 ▸ hy); go_simp) ?_
  refine quiet_one (.pointer (some ⟨w.heap.size, 0, none⟩)) rfl (fun y hy => by go_simp) ?_
  refine quiet_one (.pointer (some ⟨w.heap.size, 0, none⟩)) rfl (fun y hy => by go_simp) ?_
  refine quiet_one (.pointer (some ⟨w.heap.size, c.P, none⟩)) rfl (fun y hy => by go_simp) ?_
  refine wpQuiet_nil ?_
  intro y3 K3
  have dR := hR'.out _ _ K3.yb
  have fR := K3.yb.fz c.P
  have K5 : Hid (Fy w w.heap.size (c.setR c.P (c.B * 256 + p.Data)) p (w.heap.size + 1) zeroC (y3.setCell ⟨w.heap.size, c.P, none⟩ (.int .u16 (c.B * 256 + p.Data)))) := K3.setC c.P _ hS.out
  clear K3
  go_simp
  go_wp2_with (first
    | (refine at_loadYC w.heap.size _ p K5.out.yb _ rfl rfl rfl ?_)
    | (refine at_storeC (w.heap.size + 1) zeroC _ K5.out.z _ _ rfl rfl rfl rfl ?_; intro w2 hw2))
  refine retC Tryz.results89 rfl hw2.out.1 rfl ⟨rfl, K5.out.low.trans (hw2.out.2.1 _ K5.out.l2)⟩

theorem yjump0 (w : World) (c : Cp) (hc : c.wf) (p : Pn) (hp : p.wf) (hP : c.P < 16) (hb : branchesM c p = false) : Calls Tryz.prog 89 #[.agg (cyC c p)] w fun e w' => e = .returned (.agg (cpC (c.up c.P))) ∧ Below w.heap.size w w' := by
  have hbr := fun v => ybranches v c hc p hp
  rw [hb] at hbr
  have ix := fun v => idx (g := w.heap.size) (off := 0) (N := 16) Tryz.underlying23 infoR .u8 c.P v hP
  simp only [Nat.zero_add, Nat.mul_one] at ix
  have hS : Hid ((cyC c p).setIfInBounds c.P (.int .u16 (IntKind.u16.wrap (c.R c.P + 1))) = cyC (c.up c.P) p) := cyC_up _ p c.P hP
  have hR' : Hid (∀ b x, BoxY x b c p → x.cell? ⟨b, c.P, none⟩ = some (.int .u16 (c.R c.P))) := fun b x h => h.r c.P hP
  have zz := zeroVC
  have hF : Hid (Fy w w.heap.size c p (w.heap.size + 1) zeroC ((w.alloc (.cells (cyC c p) 52)).alloc (.cells (cpC zeroC) 26))) := Fy.start w c p
  clear hc hp hP hb
  go_enter Tryz.func89, Tryz.ntmps89
  go_wp2_with (first
    | (refine gen_world ((w.alloc (.cells (cyC c p) 52)).alloc (.cells (cpC zeroC) 26)) (Fy w w.heap.size c p (w.heap.size + 1) zeroC) hF.out ?_; intro y K)
    | (go_at_call 82; refine (hbr _).mono ?_; rintro e v1 ⟨rfl, hbv1⟩; replace K : Hid _ := K.out.below hbv1; have d18 := K.out.yb.fP; have dq := hR'.out _ _ K.out.yb; have fq := K.out.yb.fz c.P; have K1 : Hid (Fy w w.heap.size (c.up c.P) p (w.heap.size + 1) zeroC (v1.setCell ⟨w.heap.size, c.P, none⟩ (.int .u16 (IntKind.u16.wrap (c.R c.P + 1))))) := K.out.setC c.P _ hS.out)
    | (refine at_loadYC w.heap.size _ p K1.out.yb _ rfl rfl rfl ?_)
    | (refine at_loadY w.heap.size c p K.out.yb _ rfl rfl rfl ?_)
    | (refine at_storeC (w.heap.size + 1) zeroC (c.up c.P) K1.out.z _ _ rfl rfl rfl rfl ?_; intro w2 hw2))
  refine retC Tryz.results89 rfl hw2.out.1 rfl ⟨rfl, K1.out.low.trans (hw2.out.2.1 _ K1.out.l2)⟩

theorem ybranch1 (w : World) (c : Cp) (hc : c.wf) (p : Pn) (hp : p.wf) (hP : c.P < 16) (hb : branchesM c p = true) : Calls Tryz.prog 55 #[.agg (cyC c p)] w fun e w' => e = .returned (.agg (cpC (c.setR c.P (c.R c.P / 256 * 256 + p.Data)))) ∧ Below w.heap.size w w' := by
  have hbr := fun v => ybranches v c hc p hp
  rw [hb] at hbr
  have hr := hc.R c.P
  have hV := fun v => high_any (c.R c.P) v hr.1 (by omega)
  have hW := fun v => word_any (c.R c.P / 256) p.Data v (by omega) (by omega) hp.Data.1 (by have := hp.Data; omega)
  have ix := fun v => idx (g := w.heap.size) (off := 0) (N := 16) Tryz.underlying23 infoR .u8 c.P v hP
  simp only [Nat.zero_add, Nat.mul_one] at ix
  have hS : Hid ((cyC c p).setIfInBounds c.P (.int .u16 (c.R c.P / 256 * 256 + p.Data)) = cyC (c.setR c.P (c.R c.P / 256 * 256 + p.Data)) p) := cyC_setR c p c.P hP _
  have hR' : Hid (∀ b x, BoxY x b c p → x.cell? ⟨b, c.P, none⟩ = some (.int .u16 (c.R c.P))) := fun b x h => h.r c.P hP
  have zz := zeroVC
  have hF : Hid (Fy w w.heap.size c p (w.heap.size + 1) zeroC ((w.alloc (.cells (cyC c p) 52)).alloc (.cells (cpC zeroC) 26))) := Fy.start w c p
  clear hc hp hP hb hr
  go_enter Tryz.func55, Tryz.ntmps55
  go_wp2_with (first
    | (refine gen_world ((w.alloc (.cells (cyC c p) 52)).alloc (.cells (cpC zeroC) 26)) (Fy w w.heap.size c p (w.heap.size + 1) zeroC) hF.out ?_; intro y K; have d18 := K.out.yb.fP)
    | (refine at_loadY w.heap.size c p K.out.yb _ rfl rfl rfl ?_)
    | (go_at_call 82; refine (hbr _).mono ?_; rintro e v1 ⟨rfl, hbv1⟩; replace K : Hid _ := K.out.below hbv1))
  refine region_class_tail 10 (Fy w w.heap.size c p (w.heap.size + 1) zeroC) (by kernel_rfl) (by kernel_rfl) (K.out.below (below_drew (Below.refl _ _))) ?_
  simp only [List.take_succ_cons, List.take_zero, List.drop_succ_cons, List.drop_zero]
  refine quiet_one (.pointer (some ⟨w.heap.size, c.P, none⟩)) rfl (fun y hy => by go_simp) ?_
  refine quiet_one (.pointer (some ⟨w.heap.size, c.P, none⟩)) rfl (fun y hy => by go_simp) ?_
  refine quiet_one (.pointer (some ⟨w.heap.size, c.P, none⟩)) rfl (fun y hy => by go_simp) ?_
  refine quiet_one (.int .u16 (c.R c.P)) rfl (fun y hy => by have d := hR'.out _ _ hy.yb; go_simp) ?_
  refine quiet_one (.int .u8 (c.R c.P / 256)) rfl (fun y hy => by have d := (hV y).mono fun e w' (h : _ ∧ _) => And.intro h.1 (show Fy w w.heap.size c p (w.heap.size + 1) zeroC w' from h.2 ▸ hy); go_simp) ?_
  refine quiet_one (.pointer (some ⟨w.heap.size, 26, none⟩)) rfl (fun y hy => by go_simp) ?_
  refine quiet_one (.pointer (some ⟨w.heap.size, 27, none⟩)) rfl (fun y hy => by go_simp) ?_
  refine quiet_one (.int .u8 p.Data) rfl (fun y hy => by have d := hy.yb.fData; go_simp) ?_
  refine quiet_one (.int .u16 (c.R c.P / 256 * 256 + p.Data)) rfl (fun y hy => by have d := (hW y).mono fun e w' (h : _ ∧ _) => And.intro h.1 (show Fy w w.heap.size c p (w.heap.size + 1) zeroC w' from h.2 ▸ hy); go_simp) ?_
  refine quiet_one (.pointer (some ⟨w.heap.size, c.P, none⟩)) rfl (fun y hy => by go_simp) ?_
  refine wpQuiet_nil ?_
  intro y3 K3
  have dR := hR'.out _ _ K3.yb
  have fR := K3.yb.fz c.P
  have K5 : Hid (Fy w w.heap.size (c.setR c.P (c.R c.P / 256 * 256 + p.Data)) p (w.heap.size + 1) zeroC (y3.setCell ⟨w.heap.size, c.P, none⟩ (.int .u16 (c.R c.P / 256 * 256 + p.Data)))) := K3.setC c.P _ hS.out
  clear K3
  go_simp
  go_wp2_with (first
    | (refine at_loadYC w.heap.size _ p K5.out.yb _ rfl rfl rfl ?_)
    | (refine at_storeC (w.heap.size + 1) zeroC _ K5.out.z _ _ rfl rfl rfl rfl ?_; intro w2 hw2))
  refine retC Tryz.results55 rfl hw2.out.1 rfl ⟨rfl, K5.out.low.trans (hw2.out.2.1 _ K5.out.l2)⟩

theorem ybranch0 (w : World) (c : Cp) (hc : c.wf) (p : Pn) (hp : p.wf) (hP : c.P < 16) (hb : branchesM c p = false) : Calls Tryz.prog 55 #[.agg (cyC c p)] w fun e w' => e = .returned (.agg (cpC (c.up c.P))) ∧ Below w.heap.size w w' := by
  have hbr := fun v => ybranches v c hc p hp
  rw [hb] at hbr
  have ix := fun v => idx (g := w.heap.size) (off := 0) (N := 16) Tryz.underlying23 infoR .u8 c.P v hP
  simp only [Nat.zero_add, Nat.mul_one] at ix
  have hS : Hid ((cyC c p).setIfInBounds c.P (.int .u16 (IntKind.u16.wrap (c.R c.P + 1))) = cyC (c.up c.P) p) := cyC_up _ p c.P hP
  have hR' : Hid (∀ b x, BoxY x b c p → x.cell? ⟨b, c.P, none⟩ = some (.int .u16 (c.R c.P))) := fun b x h => h.r c.P hP
  have zz := zeroVC
  have hF : Hid (Fy w w.heap.size c p (w.heap.size + 1) zeroC ((w.alloc (.cells (cyC c p) 52)).alloc (.cells (cpC zeroC) 26))) := Fy.start w c p
  clear hc hp hP hb
  go_enter Tryz.func55, Tryz.ntmps55
  go_wp2_with (first
    | (refine gen_world ((w.alloc (.cells (cyC c p) 52)).alloc (.cells (cpC zeroC) 26)) (Fy w w.heap.size c p (w.heap.size + 1) zeroC) hF.out ?_; intro y K; have d18 := K.out.yb.fP)
    | (go_at_call 82; refine (hbr _).mono ?_; rintro e v1 ⟨rfl, hbv1⟩; replace K : Hid _ := K.out.below hbv1; have dq := hR'.out _ _ K.out.yb; have fq := K.out.yb.fz c.P; have K1 : Hid (Fy w w.heap.size (c.up c.P) p (w.heap.size + 1) zeroC (v1.setCell ⟨w.heap.size, c.P, none⟩ (.int .u16 (IntKind.u16.wrap (c.R c.P + 1))))) := K.out.setC c.P _ hS.out)
    | (refine at_loadYC w.heap.size _ p K1.out.yb _ rfl rfl rfl ?_)
    | (refine at_loadY w.heap.size c p K.out.yb _ rfl rfl rfl ?_)
    | (refine at_storeC (w.heap.size + 1) zeroC (c.up c.P) K1.out.z _ _ rfl rfl rfl rfl ?_; intro w2 hw2))
  refine retC Tryz.results55 rfl hw2.out.1 rfl ⟨rfl, K1.out.low.trans (hw2.out.2.1 _ K1.out.l2)⟩

end Go.Proofs.YtbeeefekndcgnaaGreatDoor
