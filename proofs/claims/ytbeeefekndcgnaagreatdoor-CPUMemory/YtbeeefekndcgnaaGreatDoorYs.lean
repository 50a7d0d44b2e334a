/- Start, Check, and Step but in the mode Load. -/
import Derived.Test.YtbeeefekndcgnaaGreatDoorCy
import Derived.Test.YtbeeefekndcgnaaGreatDoorPl
import Derived.Test.YtbeeefekndcgnaaGreatDoorYr
import Derived.Test.YtbeeefekndcgnaaGreatDoorTail
namespace Go.Proofs.YtbeeefekndcgnaaGreatDoor
open Go Go.RowKit
set_option linter.unusedVariables false
set_option maxHeartbeats 1000000
set_option maxRecDepth 20000

def startM : Cp := { zeroC with IE := true, Ph := 5 }
theorem built_start : Tryz.prog.built 26 [(6, .bool true), (10, .int .u8 5)] = some (cpC startM) := by kernel_rfl
theorem at_buildS {ops : Array Oper} {rest : List Oper} {o : Oper} {a : Act} {w : World} {Q : Exit → Act → World → Prop} (hg : o.guard = none) (ho : o.op = .build 26 #[(6, .const (.bool true)), (10, .const (.int .u8 5))]) (d : Option Tmp) (hd : o.dst = d)
    (h : wpList Tryz.prog ops Q rest (a.put d (.agg (cpC startM))) w) : wpList Tryz.prog ops Q (o :: rest) a w :=
  wpList_buildTo hg 26 _ ho d hd (cpC startM) (by simpa [Act.eval] using built_start) h
theorem ystart (w : World) : Calls Tryz.prog 5 #[] w fun e w' => e = .returned (.agg (cpC startM)) ∧ Below w.heap.size w w' := by
  have zz := zeroVC
  have hZ : Hid (BoxC (w.alloc (.cells (cpC zeroC) 26)) w.heap.size zeroC) := BoxC.new w zeroC
  go_enter Tryz.func5, Tryz.ntmps5
  go_wp2_with (first
    | (refine at_buildS rfl rfl _ rfl ?_)
    | (refine at_storeC w.heap.size zeroC startM hZ _ _ rfl rfl rfl rfl ?_; intro w2 hw2))
  refine retC Tryz.results5 rfl hw2.out.1 rfl ⟨rfl, (below1 w _).trans (hw2.out.2.1 _ (Nat.le_refl _))⟩
theorem yloading5 (w : World) (c : Cp) (h : c.Ph = 5) : Calls Tryz.prog 18 #[.agg (cpC c)] w fun e w' => e = .returned (.agg (cpC c)) ∧ Below w.heap.size w w' := by
  have h' : (c.Ph : Int) = 5 := by omega
  have zz := zeroVC
  have hF : Hid (Fc w w.heap.size c (w.heap.size + 1) zeroC ((w.alloc (.cells (cpC c) 26)).alloc (.cells (cpC zeroC) 26))) := Fc.start w c
  clear h
  go_enter Tryz.func18, Tryz.ntmps18
  go_wp2_with (first
    | (refine gen_world ((w.alloc (.cells (cpC c) 26)).alloc (.cells (cpC zeroC) 26)) (Fc w w.heap.size c (w.heap.size + 1) zeroC) hF.out ?_; intro y K; have d25 := K.out.c.fPh; rw [h'] at d25)
    | (refine at_loadC w.heap.size _ K.out.c _ rfl rfl rfl ?_)
    | (refine at_storeC (w.heap.size + 1) zeroC _ K.out.z _ _ rfl rfl rfl rfl ?_; intro w2 hw2))
  refine retC Tryz.results18 rfl hw2.out.1 rfl ⟨rfl, K.out.low.trans (hw2.out.2.1 _ K.out.l2)⟩
theorem yloading6 (w : World) (c : Cp) (h : c.Ph = 6) : Calls Tryz.prog 18 #[.agg (cpC c)] w fun e w' => e = .returned (.agg (cpC c)) ∧ Below w.heap.size w w' := by
  have h' : (c.Ph : Int) = 6 := by omega
  have zz := zeroVC
  have hF : Hid (Fc w w.heap.size c (w.heap.size + 1) zeroC ((w.alloc (.cells (cpC c) 26)).alloc (.cells (cpC zeroC) 26))) := Fc.start w c
  clear h
  go_enter Tryz.func18, Tryz.ntmps18
  go_wp2_with (first
    | (refine gen_world ((w.alloc (.cells (cpC c) 26)).alloc (.cells (cpC zeroC) 26)) (Fc w w.heap.size c (w.heap.size + 1) zeroC) hF.out ?_; intro y K; have d25 := K.out.c.fPh; rw [h'] at d25)
    | (refine at_loadC w.heap.size _ K.out.c _ rfl rfl rfl ?_)
    | (refine at_storeC (w.heap.size + 1) zeroC _ K.out.z _ _ rfl rfl rfl rfl ?_; intro w2 hw2))
  refine retC Tryz.results18 rfl hw2.out.1 rfl ⟨rfl, K.out.low.trans (hw2.out.2.1 _ K.out.l2)⟩
theorem yloading0 (w : World) (c : Cp) (h5 : c.Ph ≠ 5) (h6 : c.Ph ≠ 6) : Calls Tryz.prog 18 #[.agg (cpC c)] w fun e w' => e = .returned (.agg (cpC { c with Ph := 4, Op := 0, B := 0 })) ∧ Below w.heap.size w w' := by
  have h5' : ((c.Ph : Int) != 5) = true := by simp; omega
  have h6' : ((c.Ph : Int) != 6) = true := by simp; omega
  have zz := zeroVC
  have hF : Hid (Fc w w.heap.size c (w.heap.size + 1) zeroC ((w.alloc (.cells (cpC c) 26)).alloc (.cells (cpC zeroC) 26))) := Fc.start w c
  clear h5 h6
  go_enter Tryz.func18, Tryz.ntmps18
  go_wp2_with (first
    | (refine gen_world ((w.alloc (.cells (cpC c) 26)).alloc (.cells (cpC zeroC) 26)) (Fc w w.heap.size c (w.heap.size + 1) zeroC) hF.out ?_; intro y K; have d25 := K.out.c.fPh; have f25 := K.out.c.fz 25; have S0 : Hid (Fc w w.heap.size { c with Ph := 4 } (w.heap.size + 1) zeroC (y.setCell ⟨w.heap.size, 25, none⟩ (.int .u8 4))) := K.out.setC 25 _ (cpC_setPh c 4))
    | (refine gen_world (y.setCell ⟨w.heap.size, 25, none⟩ (.int .u8 4)) (Fc w w.heap.size { c with Ph := 4 } (w.heap.size + 1) zeroC) S0.out ?_; intro s0 T0; have d23 := T0.out.c.fOp; have f23 := T0.out.c.fz 23; have S1 : Hid (Fc w w.heap.size { c with Ph := 4, Op := 0 } (w.heap.size + 1) zeroC (s0.setCell ⟨w.heap.size, 23, none⟩ (.int .u8 0))) := T0.out.setC 23 _ (cpC_setOp { c with Ph := 4 } 0))
    | (refine gen_world (s0.setCell ⟨w.heap.size, 23, none⟩ (.int .u8 0)) (Fc w w.heap.size { c with Ph := 4, Op := 0 } (w.heap.size + 1) zeroC) S1.out ?_; intro s1 T1; have d24 := T1.out.c.fB; have f24 := T1.out.c.fz 24; have S2 : Hid (Fc w w.heap.size { c with Ph := 4, Op := 0, B := 0 } (w.heap.size + 1) zeroC (s1.setCell ⟨w.heap.size, 24, none⟩ (.int .u8 0))) := T1.out.setC 24 _ (cpC_setB { c with Ph := 4, Op := 0 } 0))
    | (refine gen_world (s1.setCell ⟨w.heap.size, 24, none⟩ (.int .u8 0)) (Fc w w.heap.size { c with Ph := 4, Op := 0, B := 0 } (w.heap.size + 1) zeroC) S2.out ?_; intro s2 T2)
    | (refine at_loadC w.heap.size _ T2.out.c _ rfl rfl rfl ?_)
    | (refine at_storeC (w.heap.size + 1) zeroC _ T2.out.z _ _ rfl rfl rfl rfl ?_; intro w2 hw2))
  refine retC Tryz.results18 rfl hw2.out.1 rfl ⟨rfl, T2.out.low.trans (hw2.out.2.1 _ T2.out.l2)⟩
theorem yloading (w : World) (c : Cp) : Calls Tryz.prog 18 #[.agg (cpC c)] w fun e w' => e = .returned (.agg (cpC (loadingM c))) ∧ Below w.heap.size w w' := by
  unfold loadingM
  by_cases h5 : c.Ph = 5
  · rw [if_pos (.inl h5)]; exact yloading5 w c h5
  · by_cases h6 : c.Ph = 6
    · rw [if_pos (.inr h6)]; exact yloading6 w c h6
    · rw [if_neg (fun h => h.elim h5 h6)]; exact yloading0 w c h5 h6
theorem ycheck (w : World) (c : Cp) (hc : c.wf) (tb : Tabs w) : Calls Tryz.prog 7 #[.agg (cpC c)] w fun e w' => e = .returned (.int .i64 (checkM c)) ∧ Below w.heap.size w w' := by
  have hm := fun v t => ymaybe v c hc t
  have hB : Hid (Below w.heap.size w (w.alloc (.cells (cpC c) 26))) := below1 _ _
  have hY : Hid (BoxC (w.alloc (.cells (cpC c) 26)) w.heap.size c) := BoxC.new w c
  have tb' : Hid (Tabs w) := tb
  unfold checkM
  obtain ⟨b, hb⟩ : ∃ b, checkB c = b := ⟨_, rfl⟩
  rw [hb] at hm ⊢
  clear hc tb hb
  cases b
  all_goals
    go_enter Tryz.func7, Tryz.ntmps7
    go_wp2_with (first
      | (refine gen_world (w.alloc (.cells (cpC c) 26)) (fun y => BoxC y w.heap.size c ∧ Below w.heap.size w y) ⟨hY.out, hB.out⟩ ?_; intro y K)
      | (refine at_loadC w.heap.size c K.out.1 _ rfl rfl rfl ?_)
      | (go_at_call 15; refine (hm _ (tb'.out.below K.out.2)).mono ?_; rintro e v1 ⟨rfl, hb1⟩; replace K : Hid (BoxC v1 w.heap.size c ∧ Below w.heap.size w v1) := ⟨K.out.1.below hb1, K.out.2.trans (hb1.mono K.out.2.size)⟩))
    go_ret
    exact ⟨by first | rfl | simp, K.out.2⟩
theorem ystepno (w : World) (c : Cp) (hc : c.wf) (p : Pn) (hp : p.wf) (tb : Tabs w) (hch : checkB c = false) : Calls Tryz.prog 11 #[.agg (cpC c), .agg (pnC p)] w fun e w' => e = .returned (.agg (cpC zeroC)) ∧ Below w.heap.size w w' := by
  have hM := fun v t => ymaybe v c hc t
  rw [hch] at hM
  have tb' : Hid (Tabs w) := tb
  have zz := zeroVC
  have hF : Hid (Fr w w.heap.size c (w.heap.size + 1) p (w.heap.size + 1 + 1) zeroC (((w.alloc (.cells (cpC c) 26)).alloc (.cells (pnC p) 38)).alloc (.cells (cpC zeroC) 26))) := Fr.start w c p
  clear hc hp tb hch
  go_enter Tryz.func11, Tryz.ntmps11
  go_wp2_with (first
    | (refine gen_world (((w.alloc (.cells (cpC c) 26)).alloc (.cells (pnC p) 38)).alloc (.cells (cpC zeroC) 26)) (Fr w w.heap.size c (w.heap.size + 1) p (w.heap.size + 1 + 1) zeroC) hF.out ?_; intro y K)
    | (go_at_call 15; refine (hM _ (tb'.out.below K.out.low)).mono ?_; rintro e v1 ⟨rfl, hb1⟩; replace K : Hid _ := K.out.below hb1; skip)
    | (refine at_build0 rfl rfl _ rfl ?_)
    | (refine at_loadC w.heap.size _ K.out.c _ rfl rfl rfl ?_)
    | (refine at_loadC w.heap.size c K.out.c _ rfl rfl rfl ?_)
    | (refine at_loadP (w.heap.size + 1) p K.out.p _ rfl rfl rfl ?_)
    | (refine at_storeC (w.heap.size + 1 + 1) zeroC _ K.out.z _ _ rfl rfl rfl rfl ?_; intro w2 hw2))
  refine retC Tryz.results11 rfl hw2.out.1 rfl ⟨rfl, K.out.low.trans (hw2.out.2.1 _ K.out.l2)⟩

theorem ystep1 (w : World) (c : Cp) (hc : c.wf) (p : Pn) (hp : p.wf) (tb : Tabs w) (hch : checkB c = true) (h : p.Mode = 1) : Calls Tryz.prog 11 #[.agg (cpC c), .agg (pnC p)] w fun e w' => e = .returned (.agg (cpC c)) ∧ Below w.heap.size w w' := by
  have hM := fun v t => ymaybe v c hc t
  rw [hch] at hM
  have tb' : Hid (Tabs w) := tb
  have hmd : (p.Mode : Int) = 1 := by omega
  have zz := zeroVC
  have hF : Hid (Fr w w.heap.size c (w.heap.size + 1) p (w.heap.size + 1 + 1) zeroC (((w.alloc (.cells (cpC c) 26)).alloc (.cells (pnC p) 38)).alloc (.cells (cpC zeroC) 26))) := Fr.start w c p
  clear hc hp tb hch h
  go_enter Tryz.func11, Tryz.ntmps11
  go_wp2_with (first
    | (refine gen_world (((w.alloc (.cells (cpC c) 26)).alloc (.cells (pnC p) 38)).alloc (.cells (cpC zeroC) 26)) (Fr w w.heap.size c (w.heap.size + 1) p (w.heap.size + 1 + 1) zeroC) hF.out ?_; intro y K)
    | (go_at_call 15; refine (hM _ (tb'.out.below K.out.low)).mono ?_; rintro e v1 ⟨rfl, hb1⟩; replace K : Hid _ := K.out.below hb1; have d0 := K.out.p.fMode; rw [hmd] at d0)
    | (refine at_loadC w.heap.size _ K.out.c _ rfl rfl rfl ?_)
    | (refine at_loadC w.heap.size c K.out.c _ rfl rfl rfl ?_)
    | (refine at_loadP (w.heap.size + 1) p K.out.p _ rfl rfl rfl ?_)
    | (refine at_storeC (w.heap.size + 1 + 1) zeroC _ K.out.z _ _ rfl rfl rfl rfl ?_; intro w2 hw2))
  refine retC Tryz.results11 rfl hw2.out.1 rfl ⟨rfl, K.out.low.trans (hw2.out.2.1 _ K.out.l2)⟩

theorem ystepbad (w : World) (c : Cp) (hc : c.wf) (p : Pn) (hp : p.wf) (tb : Tabs w) (hch : checkB c = true) (h : 3 < p.Mode) : Calls Tryz.prog 11 #[.agg (cpC c), .agg (pnC p)] w fun e w' => e = .returned (.agg (cpC zeroC)) ∧ Below w.heap.size w w' := by
  have hM := fun v t => ymaybe v c hc t
  rw [hch] at hM
  have tb' : Hid (Tabs w) := tb
  have m0 : ((p.Mode : Int) == 0) = false := by simp; omega
  have m1 : ((p.Mode : Int) == 1) = false := by simp; omega
  have m2 : ((p.Mode : Int) == 2) = false := by simp; omega
  have m3 : ((p.Mode : Int) == 3) = false := by simp; omega
  have zz := zeroVC
  have hF : Hid (Fr w w.heap.size c (w.heap.size + 1) p (w.heap.size + 1 + 1) zeroC (((w.alloc (.cells (cpC c) 26)).alloc (.cells (pnC p) 38)).alloc (.cells (cpC zeroC) 26))) := Fr.start w c p
  clear hc hp tb hch h
  go_enter Tryz.func11, Tryz.ntmps11
  go_wp2_with (first
    | (refine gen_world (((w.alloc (.cells (cpC c) 26)).alloc (.cells (pnC p) 38)).alloc (.cells (cpC zeroC) 26)) (Fr w w.heap.size c (w.heap.size + 1) p (w.heap.size + 1 + 1) zeroC) hF.out ?_; intro y K)
    | (go_at_call 15; refine (hM _ (tb'.out.below K.out.low)).mono ?_; rintro e v1 ⟨rfl, hb1⟩; replace K : Hid _ := K.out.below hb1; have d0 := K.out.p.fMode)
    | (refine at_build0 rfl rfl _ rfl ?_)
    | (refine at_loadC w.heap.size _ K.out.c _ rfl rfl rfl ?_)
    | (refine at_loadC w.heap.size c K.out.c _ rfl rfl rfl ?_)
    | (refine at_loadP (w.heap.size + 1) p K.out.p _ rfl rfl rfl ?_)
    | (refine at_storeC (w.heap.size + 1 + 1) zeroC _ K.out.z _ _ rfl rfl rfl rfl ?_; intro w2 hw2))
  refine retC Tryz.results11 rfl hw2.out.1 rfl ⟨rfl, K.out.low.trans (hw2.out.2.1 _ K.out.l2)⟩

theorem ystep2 (w : World) (c : Cp) (hc : c.wf) (p : Pn) (hp : p.wf) (tb : Tabs w) (hch : checkB c = true) (h : p.Mode = 2) : Calls Tryz.prog 11 #[.agg (cpC c), .agg (pnC p)] w fun e w' => e = .returned (.agg (cpC (resetM c))) ∧ Below w.heap.size w w' := by
  have hM := fun v t => ymaybe v c hc t
  rw [hch] at hM
  have tb' : Hid (Tabs w) := tb
  have hmd : (p.Mode : Int) = 2 := by omega
  have zz := zeroVC
  have hF : Hid (Fr w w.heap.size c (w.heap.size + 1) p (w.heap.size + 1 + 1) zeroC (((w.alloc (.cells (cpC c) 26)).alloc (.cells (pnC p) 38)).alloc (.cells (cpC zeroC) 26))) := Fr.start w c p
  clear hc hp tb hch h
  go_enter Tryz.func11, Tryz.ntmps11
  go_wp2_with (first
    | (refine gen_world (((w.alloc (.cells (cpC c) 26)).alloc (.cells (pnC p) 38)).alloc (.cells (cpC zeroC) 26)) (Fr w w.heap.size c (w.heap.size + 1) p (w.heap.size + 1 + 1) zeroC) hF.out ?_; intro y K)
    | (go_at_call 15; refine (hM _ (tb'.out.below K.out.low)).mono ?_; rintro e v1 ⟨rfl, hb1⟩; replace K : Hid _ := K.out.below hb1; have d0 := K.out.p.fMode; rw [hmd] at d0; have d23 := K.out.c.fOp; have f23 := K.out.c.fz 23; have S0 : Hid (Fr w w.heap.size { c with Op := 0 } (w.heap.size + 1) p (w.heap.size + 1 + 1) zeroC (v1.setCell ⟨w.heap.size, 23, none⟩ (.int .u8 0))) := K.out.setC 23 _ (cpC_setOp c 0))
    | (refine gen_world (v1.setCell ⟨w.heap.size, 23, none⟩ (.int .u8 0)) (Fr w w.heap.size { c with Op := 0 } (w.heap.size + 1) p (w.heap.size + 1 + 1) zeroC) S0.out ?_; intro s0 T0; have d24 := T0.out.c.fB; have f24 := T0.out.c.fz 24; have S1 : Hid (Fr w w.heap.size { c with Op := 0, B := 0 } (w.heap.size + 1) p (w.heap.size + 1 + 1) zeroC (s0.setCell ⟨w.heap.size, 24, none⟩ (.int .u8 0))) := T0.out.setC 24 _ (cpC_setB { c with Op := 0 } 0))
    | (refine gen_world (s0.setCell ⟨w.heap.size, 24, none⟩ (.int .u8 0)) (Fr w w.heap.size { c with Op := 0, B := 0 } (w.heap.size + 1) p (w.heap.size + 1 + 1) zeroC) S1.out ?_; intro s1 T1; have d22 := T1.out.c.fQ; have f22 := T1.out.c.fz 22; have S2 : Hid (Fr w w.heap.size { c with Op := 0, B := 0, Q := false } (w.heap.size + 1) p (w.heap.size + 1 + 1) zeroC (s1.setCell ⟨w.heap.size, 22, none⟩ (.bool false))) := T1.out.setC 22 _ (cpC_setQ { c with Op := 0, B := 0 } false))
    | (refine gen_world (s1.setCell ⟨w.heap.size, 22, none⟩ (.bool false)) (Fr w w.heap.size { c with Op := 0, B := 0, Q := false } (w.heap.size + 1) p (w.heap.size + 1 + 1) zeroC) S2.out ?_; intro s2 T2; have d21 := T2.out.c.fIE; have f21 := T2.out.c.fz 21; have S3 : Hid (Fr w w.heap.size { c with Op := 0, B := 0, Q := false, IE := true } (w.heap.size + 1) p (w.heap.size + 1 + 1) zeroC (s2.setCell ⟨w.heap.size, 21, none⟩ (.bool true))) := T2.out.setC 21 _ (cpC_setIE { c with Op := 0, B := 0, Q := false } true))
    | (refine gen_world (s2.setCell ⟨w.heap.size, 21, none⟩ (.bool true)) (Fr w w.heap.size { c with Op := 0, B := 0, Q := false, IE := true } (w.heap.size + 1) p (w.heap.size + 1 + 1) zeroC) S3.out ?_; intro s3 T3; have d25 := T3.out.c.fPh; have f25 := T3.out.c.fz 25; have S4 : Hid (Fr w w.heap.size { c with Op := 0, B := 0, Q := false, IE := true, Ph := 5 } (w.heap.size + 1) p (w.heap.size + 1 + 1) zeroC (s3.setCell ⟨w.heap.size, 25, none⟩ (.int .u8 5))) := T3.out.setC 25 _ (cpC_setPh { c with Op := 0, B := 0, Q := false, IE := true } 5))
    | (refine gen_world (s3.setCell ⟨w.heap.size, 25, none⟩ (.int .u8 5)) (Fr w w.heap.size { c with Op := 0, B := 0, Q := false, IE := true, Ph := 5 } (w.heap.size + 1) p (w.heap.size + 1 + 1) zeroC) S4.out ?_; intro s4 T4)
    | (refine at_loadC w.heap.size _ T4.out.c _ rfl rfl rfl ?_)
    | (refine at_loadC w.heap.size c K.out.c _ rfl rfl rfl ?_)
    | (refine at_loadP (w.heap.size + 1) p K.out.p _ rfl rfl rfl ?_)
    | (refine at_storeC (w.heap.size + 1 + 1) zeroC _ T4.out.z _ _ rfl rfl rfl rfl ?_; intro w2 hw2))
  refine retC Tryz.results11 rfl hw2.out.1 rfl ⟨rfl, T4.out.low.trans (hw2.out.2.1 _ T4.out.l2)⟩

theorem ystep0 (w : World) (c : Cp) (hc : c.wf) (p : Pn) (hp : p.wf) (tb : Tabs w) (hch : checkB c = true) (h : p.Mode = 0) : Calls Tryz.prog 11 #[.agg (cpC c), .agg (pnC p)] w fun e w' => e = .returned (.agg (cpC (goOnM c p))) ∧ Below w.heap.size w w' := by
  have hM := fun v t => ymaybe v c hc t
  rw [hch] at hM
  have tb' : Hid (Tabs w) := tb
  have hmd : (p.Mode : Int) = 0 := by omega
  have hr := fun v t => ybrun v c hc p hp t ((checkB_iff c).1 hch)
  have zz := zeroVC
  have hF : Hid (Fr w w.heap.size c (w.heap.size + 1) p (w.heap.size + 1 + 1) zeroC (((w.alloc (.cells (cpC c) 26)).alloc (.cells (pnC p) 38)).alloc (.cells (cpC zeroC) 26))) := Fr.start w c p
  clear hc hp tb hch h
  go_enter Tryz.func11, Tryz.ntmps11
  go_wp2_with (first
    | (refine gen_world (((w.alloc (.cells (cpC c) 26)).alloc (.cells (pnC p) 38)).alloc (.cells (cpC zeroC) 26)) (Fr w w.heap.size c (w.heap.size + 1) p (w.heap.size + 1 + 1) zeroC) hF.out ?_; intro y K)
    | (go_at_call 15; refine (hM _ (tb'.out.below K.out.low)).mono ?_; rintro e v1 ⟨rfl, hb1⟩; replace K : Hid _ := K.out.below hb1; have d0 := K.out.p.fMode; rw [hmd] at d0)
    | (refine at_buildY c p _ _ rfl rfl rfl rfl _ rfl ?_)
    | (go_at_call 21; refine (hr _ (tb'.out.below K.out.low)).mono ?_; rintro e v2 ⟨rfl, hb2⟩; replace K : Hid _ := K.out.below hb2)
    | (refine at_loadC w.heap.size _ K.out.c _ rfl rfl rfl ?_)
    | (refine at_loadC w.heap.size c K.out.c _ rfl rfl rfl ?_)
    | (refine at_loadP (w.heap.size + 1) p K.out.p _ rfl rfl rfl ?_)
    | (refine at_storeC (w.heap.size + 1 + 1) zeroC _ K.out.z _ _ rfl rfl rfl rfl ?_; intro w2 hw2))
  refine retC Tryz.results11 rfl hw2.out.1 rfl ⟨rfl, K.out.low.trans (hw2.out.2.1 _ K.out.l2)⟩

theorem quiet_buildY {C : World → Prop} {o : Oper} {a : Act} (c : Cp) (p : Pn) (x y : Operand) (ho : o.op = .build 52 #[(0, x), (1, y)]) (hx : a.eval x = .agg (cpC c)) (hy : a.eval y = .agg (pnC p)) : ∀ w, C w → o.quietAt Tryz.prog a C w (.agg (cyC c p)) := fun w hw => by
  have e : ((#[(0, x), (1, y)] : Array (Nat × Operand)).map fun (i, x) => (i, a.eval x)).toList = [(0, .agg (cpC c)), (1, .agg (pnC p))] := by simp [hx, hy]
  have hb := run_build (P := Tryz.prog) w 52 ((#[(0, x), (1, y)] : Array (Nat × Operand)).map fun (i, x) => (i, a.eval x)) (cyC c p) (by rw [e]; exact builtY c p)
  unfold Oper.quietAt execOp
  simp only [ho, Sem.run_bind, hb, Result.andThen_ok]
  exact ⟨rfl, rfl⟩
theorem ystep3 (w : World) (c : Cp) (hc : c.wf) (p : Pn) (hp : p.wf) (tb : Tabs w) (hch : checkB c = true) (h : p.Mode = 3) : Calls Tryz.prog 11 #[.agg (cpC c), .agg (pnC p)] w fun e w' => e = .returned (.agg (cpC (loadM c p))) ∧ Below w.heap.size w w' := by
  have hM := fun v t => ymaybe v c hc t
  rw [hch] at hM
  have tb' : Hid (Tabs w) := tb
  have hmd : (p.Mode : Int) = 3 := by omega
  have hr := fun v t => ybload v c hc p hp t ((checkB_iff c).1 hch)
  have zz := zeroVC
  have hF : Hid (Fr w w.heap.size c (w.heap.size + 1) p (w.heap.size + 1 + 1) zeroC (((w.alloc (.cells (cpC c) 26)).alloc (.cells (pnC p) 38)).alloc (.cells (cpC zeroC) 26))) := Fr.start w c p
  clear hc hp tb hch h
  go_enter Tryz.func11, Tryz.ntmps11
  go_wp2_with (first
    | (refine gen_world (((w.alloc (.cells (cpC c) 26)).alloc (.cells (pnC p) 38)).alloc (.cells (cpC zeroC) 26)) (Fr w w.heap.size c (w.heap.size + 1) p (w.heap.size + 1 + 1) zeroC) hF.out ?_; intro y K)
    | (go_at_call 15; refine (hM _ (tb'.out.below K.out.low)).mono ?_; rintro e v1 ⟨rfl, hb1⟩; replace K : Hid _ := K.out.below hb1; have d0 := K.out.p.fMode; rw [hmd] at d0)
    | (refine at_loadC w.heap.size _ K.out.c _ rfl rfl rfl ?_)
    | (refine at_loadC w.heap.size c K.out.c _ rfl rfl rfl ?_)
    | (refine at_loadP (w.heap.size + 1) p K.out.p _ rfl rfl rfl ?_))
  refine region_class_tail 5 (Fr w w.heap.size c (w.heap.size + 1) p (w.heap.size + 1 + 1) zeroC) (by kernel_rfl) (by kernel_rfl) (K.out.below (below_drew (Below.refl _ _))) ?_
  simp only [List.take_succ_cons, List.take_zero, List.drop_succ_cons, List.drop_zero]
  refine quiet_one (.agg (cpC c)) rfl (quiet_loadC w.heap.size c (fun _ h => h.c) _ rfl rfl) ?_
  refine quiet_one (.agg (cpC (loadingM c))) rfl (fun y hy => by
    have d := (yloading y c).mono fun e w' (h : _ ∧ _) => And.intro h.1 (hy.below h.2)
    go_simp
    all_goals exact d) ?_
  refine quiet_one (.agg (pnC p)) rfl (quiet_loadP (w.heap.size + 1) p (fun _ h => h.p) _ rfl rfl) ?_
  refine quiet_one (.agg (cyC (loadingM c) p)) rfl (quiet_buildY (loadingM c) p _ _ rfl rfl rfl) ?_
  refine quiet_one (.agg (cpC (loadM c p))) rfl (fun y hy => by
    have d := (hr y (tb'.out.below hy.low)).mono fun e w' (h : _ ∧ _) => And.intro h.1 (hy.below h.2)
    go_simp
    all_goals exact d) ?_
  refine wpQuiet_nil ?_
  intro y3 K3
  replace K3 : Hid _ := K3
  go_simp
  go_wp2_with (first
    | (refine at_storeC (w.heap.size + 1 + 1) zeroC _ K3.out.z _ _ rfl rfl rfl rfl ?_; intro w2 hw2))
  refine retC Tryz.results11 rfl hw2.out.1 rfl ⟨rfl, K3.out.low.trans (hw2.out.2.1 _ K3.out.l2)⟩

theorem ystep (w : World) (c : Cp) (hc : c.wf) (p : Pn) (hp : p.wf) (tb : Tabs w) : Calls Tryz.prog 11 #[.agg (cpC c), .agg (pnC p)] w fun e w' => e = .returned (.agg (cpC (stepM c p))) ∧ Below w.heap.size w w' := by
  unfold stepM
  rcases hch : checkB c with _ | _
  · exact ystepno w c hc p hp tb hch
  · rw [if_pos rfl]
    by_cases h0 : p.Mode = 0
    · rw [if_pos h0]; exact ystep0 w c hc p hp tb hch h0
    · rw [if_neg h0]
      by_cases h1 : p.Mode = 1
      · rw [if_pos h1]; exact ystep1 w c hc p hp tb hch h1
      · rw [if_neg h1]
        by_cases h2 : p.Mode = 2
        · rw [if_pos h2]; exact ystep2 w c hc p hp tb hch h2
        · rw [if_neg h2]
          by_cases h3 : p.Mode = 3
          · rw [if_pos h3]; exact ystep3 w c hc p hp tb hch h3
          · rw [if_neg h3]; exact ystepbad w c hc p hp tb hch (by omega)
end Go.Proofs.YtbeeefekndcgnaaGreatDoor
