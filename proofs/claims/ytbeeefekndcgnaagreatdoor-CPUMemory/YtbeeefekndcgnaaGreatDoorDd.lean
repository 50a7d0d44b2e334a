/- What a phase's cycle does to the bus. -/
import Derived.Test.YtbeeefekndcgnaaGreatDoorCy
import Derived.Test.YtbeeefekndcgnaaGreatDoorPl
import Derived.Test.YtbeeefekndcgnaaGreatDoorDc
namespace Go.Proofs.YtbeeefekndcgnaaGreatDoor
open Go Go.RowKit
set_option linter.unusedVariables false
set_option maxHeartbeats 1000000
set_option maxRecDepth 20000

theorem ydexec (w : World) (c : Cp) (hc : c.wf) (tb : Tabs w) (hP : c.P < 16) (hX : c.X < 16) (sec : Bool) (hs : sec = true → c.Op / 16 = 12) : Calls Tryz.prog 25 #[.agg (cpC c), .bool sec] w fun e w' => e = .returned (.agg (dvC (execM c))) ∧ Below w.heap.size w w' := by
  rcases hw : rowB c.Op
  · exact ydexec0 w c hc tb hP hX sec hs hw
  · exact ydexec1 w c hc tb hP hX sec hs hw
theorem ydrun5 (w : World) (c : Cp) (hc : c.wf) (tb : Tabs w) (hP : c.P < 16) (hX : c.X < 16) (h : c.Ph = 5) : Calls Tryz.prog 17 #[.agg (cpC c)] w fun e w' => e = .returned (.agg (dvC (⟨1, c.R 0, false, false, false, 0, 0, true⟩ : Dv))) ∧ Below w.heap.size w w' := by
  have hph : (c.Ph : Int) = 5 := by omega
  have zz := zeroVD
  have hF : Hid (Ge w w.heap.size c (w.heap.size + 1) zeroD ((w.alloc (.cells (cpC c) 26)).alloc (.cells (dvC zeroD) 33))) := Ge.start w c
  clear hc tb hP hX h
  go_enter Tryz.func17, Tryz.ntmps17
  go_wp2_with (first
    | (refine gen_world ((w.alloc (.cells (cpC c) 26)).alloc (.cells (dvC zeroD) 33)) (Ge w w.heap.size c (w.heap.size + 1) zeroD) hF.out ?_; intro y K; have d0 := K.out.c.r 0 (by decide))
    | (refine at_buildD _ [(0, .int .u8 1), (1, .int .u16 (c.R 0)), (7, .bool true)] ⟨1, c.R 0, false, false, false, 0, 0, true⟩ rfl rfl (by first | (simp [Act.eval]; done) | (go_simp; done)) (by kernel_rfl) _ rfl ?_)
    | (refine gen_world (y.alloc (.cells (dvC zeroD) 33)) (Gl w w.heap.size c (w.heap.size + 1) zeroD y.heap.size (zeroD : Dv)) (Gl.new K.out _) ?_; intro y2 K2)
    | (refine at_storeD y.heap.size zeroD ⟨1, c.R 0, false, false, false, 0, 0, true⟩ K2.out.l _ _ rfl rfl rfl rfl ?_; intro y3 hw3; have K3 : Hid (Gl w w.heap.size c (w.heap.size + 1) zeroD y.heap.size (⟨1, c.R 0, false, false, false, 0, 0, true⟩ : Dv) y3) := K2.out.putL hw3.out; have d25 := K3.out.f.c.fPh; rw [hph] at d25)
    | (refine at_loadD y.heap.size _ K3.out.l _ rfl rfl rfl ?_)
    | (refine at_storeD (w.heap.size + 1) zeroD _ K3.out.f.z _ _ rfl rfl rfl rfl ?_; intro w2 hw2))
  refine retD Tryz.results17 rfl hw2.out.1 rfl ⟨rfl, K3.out.f.low.trans (hw2.out.2.1 _ K3.out.f.l2)⟩

theorem ydrun4 (w : World) (c : Cp) (hc : c.wf) (tb : Tabs w) (hP : c.P < 16) (hX : c.X < 16) (h : c.Ph = 4) : Calls Tryz.prog 17 #[.agg (cpC c)] w fun e w' => e = .returned (.agg (dvC (⟨1, c.R 0, true, false, false, 0, 0, true⟩ : Dv))) ∧ Below w.heap.size w w' := by
  have hph : (c.Ph : Int) = 4 := by omega
  have zz := zeroVD
  have hF : Hid (Ge w w.heap.size c (w.heap.size + 1) zeroD ((w.alloc (.cells (cpC c) 26)).alloc (.cells (dvC zeroD) 33))) := Ge.start w c
  clear hc tb hP hX h
  go_enter Tryz.func17, Tryz.ntmps17
  go_wp2_with (first
    | (refine gen_world ((w.alloc (.cells (cpC c) 26)).alloc (.cells (dvC zeroD) 33)) (Ge w w.heap.size c (w.heap.size + 1) zeroD) hF.out ?_; intro y K; have d0 := K.out.c.r 0 (by decide))
    | (refine at_buildD _ [(0, .int .u8 1), (1, .int .u16 (c.R 0)), (7, .bool true)] ⟨1, c.R 0, false, false, false, 0, 0, true⟩ rfl rfl (by first | (simp [Act.eval]; done) | (go_simp; done)) (by kernel_rfl) _ rfl ?_)
    | (refine gen_world (y.alloc (.cells (dvC zeroD) 33)) (Gl w w.heap.size c (w.heap.size + 1) zeroD y.heap.size (zeroD : Dv)) (Gl.new K.out _) ?_; intro y2 K2)
    | (refine at_storeD y.heap.size zeroD ⟨1, c.R 0, false, false, false, 0, 0, true⟩ K2.out.l _ _ rfl rfl rfl rfl ?_; intro y3 hw3; have K3 : Hid (Gl w w.heap.size c (w.heap.size + 1) zeroD y.heap.size (⟨1, c.R 0, false, false, false, 0, 0, true⟩ : Dv) y3) := K2.out.putL hw3.out; have d25 := K3.out.f.c.fPh; rw [hph] at d25; have e2 := K3.out.l.f2; have g2 := K3.out.l.fz 2; have K4 : Hid (Gl w w.heap.size c (w.heap.size + 1) zeroD y.heap.size (⟨1, c.R 0, true, false, false, 0, 0, true⟩ : Dv) (y3.setCell ⟨y.heap.size, 2, none⟩ (.bool true))) := K3.out.setL 2 _ rfl)
    | (refine at_loadD y.heap.size _ K4.out.l _ rfl rfl rfl ?_)
    | (refine at_storeD (w.heap.size + 1) zeroD _ K4.out.f.z _ _ rfl rfl rfl rfl ?_; intro w2 hw2))
  refine retD Tryz.results17 rfl hw2.out.1 rfl ⟨rfl, K4.out.f.low.trans (hw2.out.2.1 _ K4.out.f.l2)⟩

theorem ydrun7 (w : World) (c : Cp) (hc : c.wf) (tb : Tabs w) (hP : c.P < 16) (hX : c.X < 16) (h : c.Ph = 7) : Calls Tryz.prog 17 #[.agg (cpC c)] w fun e w' => e = .returned (.agg (dvC (⟨2, c.R 0, true, false, false, 0, 0, true⟩ : Dv))) ∧ Below w.heap.size w w' := by
  have hph : (c.Ph : Int) = 7 := by omega
  have zz := zeroVD
  have hF : Hid (Ge w w.heap.size c (w.heap.size + 1) zeroD ((w.alloc (.cells (cpC c) 26)).alloc (.cells (dvC zeroD) 33))) := Ge.start w c
  clear hc tb hP hX h
  go_enter Tryz.func17, Tryz.ntmps17
  go_wp2_with (first
    | (refine gen_world ((w.alloc (.cells (cpC c) 26)).alloc (.cells (dvC zeroD) 33)) (Ge w w.heap.size c (w.heap.size + 1) zeroD) hF.out ?_; intro y K; have d0 := K.out.c.r 0 (by decide))
    | (refine at_buildD _ [(0, .int .u8 1), (1, .int .u16 (c.R 0)), (7, .bool true)] ⟨1, c.R 0, false, false, false, 0, 0, true⟩ rfl rfl (by first | (simp [Act.eval]; done) | (go_simp; done)) (by kernel_rfl) _ rfl ?_)
    | (refine gen_world (y.alloc (.cells (dvC zeroD) 33)) (Gl w w.heap.size c (w.heap.size + 1) zeroD y.heap.size (zeroD : Dv)) (Gl.new K.out _) ?_; intro y2 K2)
    | (refine at_storeD y.heap.size zeroD ⟨1, c.R 0, false, false, false, 0, 0, true⟩ K2.out.l _ _ rfl rfl rfl rfl ?_; intro y3 hw3; have K3 : Hid (Gl w w.heap.size c (w.heap.size + 1) zeroD y.heap.size (⟨1, c.R 0, false, false, false, 0, 0, true⟩ : Dv) y3) := K2.out.putL hw3.out; have d25 := K3.out.f.c.fPh; rw [hph] at d25; have e0 := K3.out.l.f0; have g0 := K3.out.l.fz 0; have K4 : Hid (Gl w w.heap.size c (w.heap.size + 1) zeroD y.heap.size (⟨2, c.R 0, false, false, false, 0, 0, true⟩ : Dv) (y3.setCell ⟨y.heap.size, 0, none⟩ (.int .u8 2))) := K3.out.setL 0 _ rfl)
    | (refine gen_world (y3.setCell ⟨y.heap.size, 0, none⟩ (.int .u8 2)) (Gl w w.heap.size c (w.heap.size + 1) zeroD y.heap.size (⟨2, c.R 0, false, false, false, 0, 0, true⟩ : Dv)) K4.out ?_; intro y5 K5; have e2 := K5.out.l.f2; have g2 := K5.out.l.fz 2; have K6 : Hid (Gl w w.heap.size c (w.heap.size + 1) zeroD y.heap.size (⟨2, c.R 0, true, false, false, 0, 0, true⟩ : Dv) (y5.setCell ⟨y.heap.size, 2, none⟩ (.bool true))) := K5.out.setL 2 _ rfl)
    | (refine at_loadD y.heap.size _ K6.out.l _ rfl rfl rfl ?_)
    | (refine at_storeD (w.heap.size + 1) zeroD _ K6.out.f.z _ _ rfl rfl rfl rfl ?_; intro w2 hw2))
  refine retD Tryz.results17 rfl hw2.out.1 rfl ⟨rfl, K6.out.f.low.trans (hw2.out.2.1 _ K6.out.f.l2)⟩

theorem ydrun6 (w : World) (c : Cp) (hc : c.wf) (tb : Tabs w) (hP : c.P < 16) (hX : c.X < 16) (h : c.Ph = 6) : Calls Tryz.prog 17 #[.agg (cpC c)] w fun e w' => e = .returned (.agg (dvC (⟨2, c.R 0, false, true, false, 0, 0, true⟩ : Dv))) ∧ Below w.heap.size w w' := by
  have hph : (c.Ph : Int) = 6 := by omega
  have zz := zeroVD
  have hF : Hid (Ge w w.heap.size c (w.heap.size + 1) zeroD ((w.alloc (.cells (cpC c) 26)).alloc (.cells (dvC zeroD) 33))) := Ge.start w c
  clear hc tb hP hX h
  go_enter Tryz.func17, Tryz.ntmps17
  go_wp2_with (first
    | (refine gen_world ((w.alloc (.cells (cpC c) 26)).alloc (.cells (dvC zeroD) 33)) (Ge w w.heap.size c (w.heap.size + 1) zeroD) hF.out ?_; intro y K; have d0 := K.out.c.r 0 (by decide))
    | (refine at_buildD _ [(0, .int .u8 1), (1, .int .u16 (c.R 0)), (7, .bool true)] ⟨1, c.R 0, false, false, false, 0, 0, true⟩ rfl rfl (by first | (simp [Act.eval]; done) | (go_simp; done)) (by kernel_rfl) _ rfl ?_)
    | (refine gen_world (y.alloc (.cells (dvC zeroD) 33)) (Gl w w.heap.size c (w.heap.size + 1) zeroD y.heap.size (zeroD : Dv)) (Gl.new K.out _) ?_; intro y2 K2)
    | (refine at_storeD y.heap.size zeroD ⟨1, c.R 0, false, false, false, 0, 0, true⟩ K2.out.l _ _ rfl rfl rfl rfl ?_; intro y3 hw3; have K3 : Hid (Gl w w.heap.size c (w.heap.size + 1) zeroD y.heap.size (⟨1, c.R 0, false, false, false, 0, 0, true⟩ : Dv) y3) := K2.out.putL hw3.out; have d25 := K3.out.f.c.fPh; rw [hph] at d25; have e0 := K3.out.l.f0; have g0 := K3.out.l.fz 0; have K4 : Hid (Gl w w.heap.size c (w.heap.size + 1) zeroD y.heap.size (⟨2, c.R 0, false, false, false, 0, 0, true⟩ : Dv) (y3.setCell ⟨y.heap.size, 0, none⟩ (.int .u8 2))) := K3.out.setL 0 _ rfl)
    | (refine gen_world (y3.setCell ⟨y.heap.size, 0, none⟩ (.int .u8 2)) (Gl w w.heap.size c (w.heap.size + 1) zeroD y.heap.size (⟨2, c.R 0, false, false, false, 0, 0, true⟩ : Dv)) K4.out ?_; intro y5 K5; have e3 := K5.out.l.f3; have g3 := K5.out.l.fz 3; have K6 : Hid (Gl w w.heap.size c (w.heap.size + 1) zeroD y.heap.size (⟨2, c.R 0, false, true, false, 0, 0, true⟩ : Dv) (y5.setCell ⟨y.heap.size, 3, none⟩ (.bool true))) := K5.out.setL 3 _ rfl)
    | (refine at_loadD y.heap.size _ K6.out.l _ rfl rfl rfl ?_)
    | (refine at_storeD (w.heap.size + 1) zeroD _ K6.out.f.z _ _ rfl rfl rfl rfl ?_; intro w2 hw2))
  refine retD Tryz.results17 rfl hw2.out.1 rfl ⟨rfl, K6.out.f.low.trans (hw2.out.2.1 _ K6.out.f.l2)⟩

theorem ydrun2 (w : World) (c : Cp) (hc : c.wf) (tb : Tabs w) (hP : c.P < 16) (hX : c.X < 16) (h : c.Ph = 2) (hs : c.Ph = 3 → c.Op / 16 = 12) : Calls Tryz.prog 17 #[.agg (cpC c)] w fun e w' => e = .returned (.agg (dvC (execM c))) ∧ Below w.heap.size w w' := by
  have hph : (c.Ph : Int) = 2 := by omega
  have hx := fun v t => ydexec v c hc t hP hX false (by intro h'; cases h')
  have tb' : Hid (Tabs w) := tb
  have zz := zeroVD
  have hF : Hid (Ge w w.heap.size c (w.heap.size + 1) zeroD ((w.alloc (.cells (cpC c) 26)).alloc (.cells (dvC zeroD) 33))) := Ge.start w c
  clear hc tb hP hX h hs
  go_enter Tryz.func17, Tryz.ntmps17
  go_wp2_with (first
    | (refine gen_world ((w.alloc (.cells (cpC c) 26)).alloc (.cells (dvC zeroD) 33)) (Ge w w.heap.size c (w.heap.size + 1) zeroD) hF.out ?_; intro y K; have d0 := K.out.c.r 0 (by decide))
    | (refine at_buildD _ [(0, .int .u8 1), (1, .int .u16 (c.R 0)), (7, .bool true)] ⟨1, c.R 0, false, false, false, 0, 0, true⟩ rfl rfl (by first | (simp [Act.eval]; done) | (go_simp; done)) (by kernel_rfl) _ rfl ?_)
    | (refine gen_world (y.alloc (.cells (dvC zeroD) 33)) (Gl w w.heap.size c (w.heap.size + 1) zeroD y.heap.size (zeroD : Dv)) (Gl.new K.out _) ?_; intro y2 K2)
    | (refine at_storeD y.heap.size zeroD ⟨1, c.R 0, false, false, false, 0, 0, true⟩ K2.out.l _ _ rfl rfl rfl rfl ?_; intro y3 hw3; have K3 : Hid (Gl w w.heap.size c (w.heap.size + 1) zeroD y.heap.size (⟨1, c.R 0, false, false, false, 0, 0, true⟩ : Dv) y3) := K2.out.putL hw3.out; have d25 := K3.out.f.c.fPh; rw [hph] at d25)
    | (refine at_loadC w.heap.size c K3.out.f.c _ rfl rfl rfl ?_)
    | (go_at_call 25; refine (hx _ (tb'.out.below K3.out.f.low)).mono ?_; rintro e v4 ⟨rfl, hb4⟩; replace K3 : Hid _ := K3.out.below hb4)
    | (refine at_storeD (w.heap.size + 1) zeroD _ K3.out.f.z _ _ rfl rfl rfl rfl ?_; intro w2 hw2))
  refine retD Tryz.results17 rfl hw2.out.1 rfl ⟨rfl, K3.out.f.low.trans (hw2.out.2.1 _ K3.out.f.l2)⟩

theorem ydrun3 (w : World) (c : Cp) (hc : c.wf) (tb : Tabs w) (hP : c.P < 16) (hX : c.X < 16) (h : c.Ph = 3) (hs : c.Ph = 3 → c.Op / 16 = 12) : Calls Tryz.prog 17 #[.agg (cpC c)] w fun e w' => e = .returned (.agg (dvC (execM c))) ∧ Below w.heap.size w w' := by
  have hph : (c.Ph : Int) = 3 := by omega
  have hx := fun v t => ydexec v c hc t hP hX true (by intro _; exact hs h)
  have tb' : Hid (Tabs w) := tb
  have zz := zeroVD
  have hF : Hid (Ge w w.heap.size c (w.heap.size + 1) zeroD ((w.alloc (.cells (cpC c) 26)).alloc (.cells (dvC zeroD) 33))) := Ge.start w c
  clear hc tb hP hX h hs
  go_enter Tryz.func17, Tryz.ntmps17
  go_wp2_with (first
    | (refine gen_world ((w.alloc (.cells (cpC c) 26)).alloc (.cells (dvC zeroD) 33)) (Ge w w.heap.size c (w.heap.size + 1) zeroD) hF.out ?_; intro y K; have d0 := K.out.c.r 0 (by decide))
    | (refine at_buildD _ [(0, .int .u8 1), (1, .int .u16 (c.R 0)), (7, .bool true)] ⟨1, c.R 0, false, false, false, 0, 0, true⟩ rfl rfl (by first | (simp [Act.eval]; done) | (go_simp; done)) (by kernel_rfl) _ rfl ?_)
    | (refine gen_world (y.alloc (.cells (dvC zeroD) 33)) (Gl w w.heap.size c (w.heap.size + 1) zeroD y.heap.size (zeroD : Dv)) (Gl.new K.out _) ?_; intro y2 K2)
    | (refine at_storeD y.heap.size zeroD ⟨1, c.R 0, false, false, false, 0, 0, true⟩ K2.out.l _ _ rfl rfl rfl rfl ?_; intro y3 hw3; have K3 : Hid (Gl w w.heap.size c (w.heap.size + 1) zeroD y.heap.size (⟨1, c.R 0, false, false, false, 0, 0, true⟩ : Dv) y3) := K2.out.putL hw3.out; have d25 := K3.out.f.c.fPh; rw [hph] at d25)
    | (refine at_loadC w.heap.size c K3.out.f.c _ rfl rfl rfl ?_)
    | (go_at_call 25; refine (hx _ (tb'.out.below K3.out.f.low)).mono ?_; rintro e v4 ⟨rfl, hb4⟩; replace K3 : Hid _ := K3.out.below hb4)
    | (refine at_storeD (w.heap.size + 1) zeroD _ K3.out.f.z _ _ rfl rfl rfl rfl ?_; intro w2 hw2))
  refine retD Tryz.results17 rfl hw2.out.1 rfl ⟨rfl, K3.out.f.low.trans (hw2.out.2.1 _ K3.out.f.l2)⟩

theorem ydrun1 (w : World) (c : Cp) (hc : c.wf) (tb : Tabs w) (hP : c.P < 16) (hX : c.X < 16) (h : c.Ph = 1) : Calls Tryz.prog 17 #[.agg (cpC c)] w fun e w' => e = .returned (.agg (dvC (⟨0, c.R c.P, true, false, false, 0, 0, true⟩ : Dv))) ∧ Below w.heap.size w w' := by
  have hph : (c.Ph : Int) = 1 := by omega
  have ix := fun v => idx (g := w.heap.size) (off := 0) (N := 16) Tryz.underlying23 infoR .u8 c.P v hP
  simp only [Nat.zero_add, Nat.mul_one] at ix
  have hR' : Hid (∀ b x, BoxC x b c → x.cell? ⟨b, c.P, none⟩ = some (.int .u16 (c.R c.P))) := fun b x h => h.r c.P hP
  have zz := zeroVD
  have hF : Hid (Ge w w.heap.size c (w.heap.size + 1) zeroD ((w.alloc (.cells (cpC c) 26)).alloc (.cells (dvC zeroD) 33))) := Ge.start w c
  clear hc tb hP hX h
  go_enter Tryz.func17, Tryz.ntmps17
  go_wp2_with (first
    | (refine gen_world ((w.alloc (.cells (cpC c) 26)).alloc (.cells (dvC zeroD) 33)) (Ge w w.heap.size c (w.heap.size + 1) zeroD) hF.out ?_; intro y K; have d0 := K.out.c.r 0 (by decide))
    | (refine at_buildD _ [(0, .int .u8 1), (1, .int .u16 (c.R 0)), (7, .bool true)] ⟨1, c.R 0, false, false, false, 0, 0, true⟩ rfl rfl (by first | (simp [Act.eval]; done) | (go_simp; done)) (by kernel_rfl) _ rfl ?_)
    | (refine gen_world (y.alloc (.cells (dvC zeroD) 33)) (Gl w w.heap.size c (w.heap.size + 1) zeroD y.heap.size (zeroD : Dv)) (Gl.new K.out _) ?_; intro y2 K2)
    | (refine at_storeD y.heap.size zeroD ⟨1, c.R 0, false, false, false, 0, 0, true⟩ K2.out.l _ _ rfl rfl rfl rfl ?_; intro y3 hw3; have K3 : Hid (Gl w w.heap.size c (w.heap.size + 1) zeroD y.heap.size (⟨1, c.R 0, false, false, false, 0, 0, true⟩ : Dv) y3) := K2.out.putL hw3.out; have d25 := K3.out.f.c.fPh; rw [hph] at d25))
  refine wp_region_held_drew (S := Ge w w.heap.size c (w.heap.size + 1) zeroD) (by kernel_rfl) (K3.out.f.below (below_drew (Below.refl _ _))) (fun hH => ?_)
  have G0 : Gl w w.heap.size c (w.heap.size + 1) zeroD y.heap.size (⟨1, c.R 0, false, false, false, 0, 0, true⟩ : Dv) y3.drew := K3.out.below (below_drew (Below.refl _ _))
  generalize y3.drew = z0 at hH G0 ⊢
  clear K3 hw3
  refine wpAnyH_take (i := 0) (v := .pointer (some ⟨w.heap.size, 18, none⟩)) rfl (by kernel_rfl) (by kernel_rfl) (by kernel_rfl) (fun _ _ _ h => h) (.inl ⟨by rfl, fun u hu => by go_simp⟩) hH ?_
  try simp only [Act.put, List.setIfInBounds_toArray]
  refine wpAnyH_take (i := 1) (v := .int .u8 (c.P : Int)) rfl (by kernel_rfl) (by kernel_rfl) (by kernel_rfl) (fun _ _ _ h => h) (.inl ⟨by rfl, fun u hu => by have d := hu.c.fP; go_simp⟩) hH ?_
  try simp only [Act.put]
  refine wpAnyH_take (i := 2) (v := .pointer (some ⟨w.heap.size, 0, none⟩)) rfl (by kernel_rfl) (by kernel_rfl) (by kernel_rfl) (fun _ _ _ h => h) (.inl ⟨by rfl, fun u hu => by go_simp⟩) hH ?_
  try simp only [Act.put]
  refine wpAnyH_take (i := 3) (v := .pointer (some ⟨w.heap.size, c.P, none⟩)) rfl (by kernel_rfl) (by kernel_rfl) (by kernel_rfl) (fun _ _ _ h => h) (.inl ⟨by rfl, fun u hu => by go_simp⟩) hH ?_
  try simp only [Act.put]
  refine wpAnyH_take (i := 4) (v := .int .u16 (c.R c.P)) rfl (by kernel_rfl) (by kernel_rfl) (by kernel_rfl) (fun _ _ _ h => h) (.inl ⟨by rfl, fun u hu => by have d := hR'.out _ _ hu.c; go_simp⟩) hH ?_
  try simp only [Act.put]
  refine wpAnyH_take (i := 5) (v := .pointer (some ⟨y.heap.size, 0, none⟩)) rfl (by kernel_rfl) (by kernel_rfl) (by kernel_rfl) (fun _ _ _ h => h) (.inl ⟨by rfl, fun u hu => by go_simp⟩) hH ?_
  try simp only [Act.put]
  refine wpAnyH_ready (rs := [6]) (by kernel_rfl) (by simp) (AllReadyH.cons rfl (fun K hK => ?_) AllReadyH.nil)
  rw [if_pos (by rfl)]
  have e0 := G0.l.f0
  have g0 := G0.l.fz 0
  go_wp2
  have G1 : Gl w w.heap.size c (w.heap.size + 1) zeroD y.heap.size (⟨0, c.R 0, false, false, false, 0, 0, true⟩ : Dv) (z0.setCell ⟨y.heap.size, 0, none⟩ (.int .u8 0)) := G0.setL 0 _ rfl
  refine hK.out _ _ G1.f (fun hH => ?_)
  clear hK K e0 g0
  generalize z0.setCell _ _ = z1 at hH G1 ⊢
  try simp only [Act.put, List.setIfInBounds_toArray, List.set_cons_zero, List.set_cons_succ]
  refine wpAnyH_take (i := 7) (v := .pointer (some ⟨y.heap.size, 1, none⟩)) rfl (by kernel_rfl) (by kernel_rfl) (by kernel_rfl) (fun _ _ _ h => h) (.inl ⟨by rfl, fun u hu => by go_simp⟩) hH ?_
  try simp only [Act.put, List.setIfInBounds_toArray]
  refine wpAnyH_ready (rs := [8]) (by kernel_rfl) (by simp) (AllReadyH.cons rfl (fun K hK => ?_) AllReadyH.nil)
  rw [if_pos (by rfl)]
  have e1 := G1.l.f1
  have g1 := G1.l.fz 1
  go_wp2
  have G2 : Gl w w.heap.size c (w.heap.size + 1) zeroD y.heap.size (⟨0, c.R c.P, false, false, false, 0, 0, true⟩ : Dv) (z1.setCell ⟨y.heap.size, 1, none⟩ (.int .u16 (c.R c.P))) := G1.setL 1 _ rfl
  refine hK.out _ _ G2.f (fun hH => ?_)
  clear hK K e1 g1
  generalize z1.setCell _ _ = z2 at hH G2 ⊢
  try simp only [Act.put, List.setIfInBounds_toArray, List.set_cons_zero, List.set_cons_succ]
  refine wpAnyH_take (i := 9) (v := .pointer (some ⟨y.heap.size, 2, none⟩)) rfl (by kernel_rfl) (by kernel_rfl) (by kernel_rfl) (fun _ _ _ h => h) (.inl ⟨by rfl, fun u hu => by go_simp⟩) hH ?_
  try simp only [Act.put, List.setIfInBounds_toArray]
  refine wpAnyH_ready (rs := [10]) (by kernel_rfl) (by simp) (AllReadyH.cons rfl (fun K hK => ?_) AllReadyH.nil)
  rw [if_pos (by rfl)]
  have e2 := G2.l.f2
  have g2 := G2.l.fz 2
  go_wp2
  have G3 : Gl w w.heap.size c (w.heap.size + 1) zeroD y.heap.size (⟨0, c.R c.P, true, false, false, 0, 0, true⟩ : Dv) (z2.setCell ⟨y.heap.size, 2, none⟩ (.bool true)) := G2.setL 2 _ rfl
  refine hK.out _ _ G3.f (fun hH => ?_)
  clear hK K e2 g2
  generalize z2.setCell _ _ = z3 at hH G3 ⊢
  try simp only [Act.put, List.setIfInBounds_toArray, List.set_cons_zero, List.set_cons_succ]
  refine wpAnyH_done (by kernel_rfl) ?_ _
  replace G3 : Hid _ := G3
  go_wp2_with (first
    | (refine at_loadD y.heap.size _ G3.out.l _ rfl rfl rfl ?_)
    | (refine at_storeD (w.heap.size + 1) zeroD _ G3.out.f.z _ _ rfl rfl rfl rfl ?_; intro w2 hw2))
  refine retD Tryz.results17 rfl hw2.out.1 rfl ⟨rfl, G3.out.f.low.trans (hw2.out.2.1 _ G3.out.f.l2)⟩

theorem ydrun8 (w : World) (c : Cp) (hc : c.wf) (tb : Tabs w) (hP : c.P < 16) (hX : c.X < 16) (h : c.Ph = 8) : Calls Tryz.prog 17 #[.agg (cpC c)] w fun e w' => e = .returned (.agg (dvC (⟨3, c.R (c.Op % 16), false, false, false, 0, 0, true⟩ : Dv))) ∧ Below w.heap.size w w' := by
  have hph : (c.Ph : Int) = 8 := by omega
  obtain ⟨q, hq⟩ : ∃ q, c.Op % 16 = q := ⟨_, rfl⟩
  have hq16 : q < 16 := by omega
  have hl : bits .and .u8 (c.Op : Int) 15 = (q : Int) := by rw [low4 c.Op hc.Op]; omega
  rw [hq]
  have ix := fun v => idx (g := w.heap.size) (off := 0) (N := 16) Tryz.underlying23 infoR .u8 q v hq16
  simp only [Nat.zero_add, Nat.mul_one] at ix
  have hR' : Hid (∀ b x, BoxC x b c → x.cell? ⟨b, q, none⟩ = some (.int .u16 (c.R q))) := fun b x h => h.r q hq16
  have zz := zeroVD
  have hF : Hid (Ge w w.heap.size c (w.heap.size + 1) zeroD ((w.alloc (.cells (cpC c) 26)).alloc (.cells (dvC zeroD) 33))) := Ge.start w c
  clear hc tb hP hX h hq hq16
  go_enter Tryz.func17, Tryz.ntmps17
  go_wp2_with (first
    | (refine gen_world ((w.alloc (.cells (cpC c) 26)).alloc (.cells (dvC zeroD) 33)) (Ge w w.heap.size c (w.heap.size + 1) zeroD) hF.out ?_; intro y K; have d0 := K.out.c.r 0 (by decide))
    | (refine at_buildD _ [(0, .int .u8 1), (1, .int .u16 (c.R 0)), (7, .bool true)] ⟨1, c.R 0, false, false, false, 0, 0, true⟩ rfl rfl (by first | (simp [Act.eval]; done) | (go_simp; done)) (by kernel_rfl) _ rfl ?_)
    | (refine gen_world (y.alloc (.cells (dvC zeroD) 33)) (Gl w w.heap.size c (w.heap.size + 1) zeroD y.heap.size (zeroD : Dv)) (Gl.new K.out _) ?_; intro y2 K2)
    | (refine at_storeD y.heap.size zeroD ⟨1, c.R 0, false, false, false, 0, 0, true⟩ K2.out.l _ _ rfl rfl rfl rfl ?_; intro y3 hw3; have K3 : Hid (Gl w w.heap.size c (w.heap.size + 1) zeroD y.heap.size (⟨1, c.R 0, false, false, false, 0, 0, true⟩ : Dv) y3) := K2.out.putL hw3.out; have d25 := K3.out.f.c.fPh; rw [hph] at d25))
  refine wp_region_held_drew (S := Ge w w.heap.size c (w.heap.size + 1) zeroD) (by kernel_rfl) (K3.out.f.below (below_drew (Below.refl _ _))) (fun hH => ?_)
  have G0 : Gl w w.heap.size c (w.heap.size + 1) zeroD y.heap.size (⟨1, c.R 0, false, false, false, 0, 0, true⟩ : Dv) y3.drew := K3.out.below (below_drew (Below.refl _ _))
  generalize y3.drew = z0 at hH G0 ⊢
  clear K3 hw3
  refine wpAnyH_take (i := 0) (v := .pointer (some ⟨w.heap.size, 23, none⟩)) rfl (by kernel_rfl) (by kernel_rfl) (by kernel_rfl) (fun _ _ _ h => h) (.inl ⟨by rfl, fun u hu => by go_simp⟩) hH ?_
  try simp only [Act.put, List.setIfInBounds_toArray]
  refine wpAnyH_take (i := 1) (v := .int .u8 (c.Op : Int)) rfl (by kernel_rfl) (by kernel_rfl) (by kernel_rfl) (fun _ _ _ h => h) (.inl ⟨by rfl, fun u hu => by have d := hu.c.fOp; go_simp⟩) hH ?_
  try simp only [Act.put]
  refine wpAnyH_take (i := 2) (v := .int .u8 (q : Int)) rfl (by kernel_rfl) (by kernel_rfl) (by kernel_rfl) (fun _ _ _ h => h) (.inl ⟨by rfl, fun u hu => by go_simp⟩) hH ?_
  try simp only [Act.put]
  refine wpAnyH_take (i := 3) (v := .pointer (some ⟨w.heap.size, 0, none⟩)) rfl (by kernel_rfl) (by kernel_rfl) (by kernel_rfl) (fun _ _ _ h => h) (.inl ⟨by rfl, fun u hu => by go_simp⟩) hH ?_
  try simp only [Act.put]
  refine wpAnyH_take (i := 4) (v := .pointer (some ⟨w.heap.size, q, none⟩)) rfl (by kernel_rfl) (by kernel_rfl) (by kernel_rfl) (fun _ _ _ h => h) (.inl ⟨by rfl, fun u hu => by go_simp⟩) hH ?_
  try simp only [Act.put]
  refine wpAnyH_take (i := 5) (v := .int .u16 (c.R q)) rfl (by kernel_rfl) (by kernel_rfl) (by kernel_rfl) (fun _ _ _ h => h) (.inl ⟨by rfl, fun u hu => by have d := hR'.out _ _ hu.c; go_simp⟩) hH ?_
  try simp only [Act.put]
  refine wpAnyH_take (i := 6) (v := .pointer (some ⟨y.heap.size, 0, none⟩)) rfl (by kernel_rfl) (by kernel_rfl) (by kernel_rfl) (fun _ _ _ h => h) (.inl ⟨by rfl, fun u hu => by go_simp⟩) hH ?_
  try simp only [Act.put]
  refine wpAnyH_ready (rs := [7]) (by kernel_rfl) (by simp) (AllReadyH.cons rfl (fun K hK => ?_) AllReadyH.nil)
  rw [if_pos (by rfl)]
  have e0 := G0.l.f0
  have g0 := G0.l.fz 0
  go_wp2
  have G1 : Gl w w.heap.size c (w.heap.size + 1) zeroD y.heap.size (⟨3, c.R 0, false, false, false, 0, 0, true⟩ : Dv) (z0.setCell ⟨y.heap.size, 0, none⟩ (.int .u8 3)) := G0.setL 0 _ rfl
  refine hK.out _ _ G1.f (fun hH => ?_)
  clear hK K e0 g0
  generalize z0.setCell _ _ = z1 at hH G1 ⊢
  try simp only [Act.put, List.setIfInBounds_toArray, List.set_cons_zero, List.set_cons_succ]
  refine wpAnyH_take (i := 8) (v := .pointer (some ⟨y.heap.size, 1, none⟩)) rfl (by kernel_rfl) (by kernel_rfl) (by kernel_rfl) (fun _ _ _ h => h) (.inl ⟨by rfl, fun u hu => by go_simp⟩) hH ?_
  try simp only [Act.put, List.setIfInBounds_toArray]
  refine wpAnyH_ready (rs := [9]) (by kernel_rfl) (by simp) (AllReadyH.cons rfl (fun K hK => ?_) AllReadyH.nil)
  rw [if_pos (by rfl)]
  have e1 := G1.l.f1
  have g1 := G1.l.fz 1
  go_wp2
  have G2 : Gl w w.heap.size c (w.heap.size + 1) zeroD y.heap.size (⟨3, c.R q, false, false, false, 0, 0, true⟩ : Dv) (z1.setCell ⟨y.heap.size, 1, none⟩ (.int .u16 (c.R q))) := G1.setL 1 _ rfl
  refine hK.out _ _ G2.f (fun hH => ?_)
  clear hK K e1 g1
  generalize z1.setCell _ _ = z2 at hH G2 ⊢
  try simp only [Act.put, List.setIfInBounds_toArray, List.set_cons_zero, List.set_cons_succ]
  refine wpAnyH_done (by kernel_rfl) ?_ _
  replace G2 : Hid _ := G2
  go_wp2_with (first
    | (refine at_loadD y.heap.size _ G2.out.l _ rfl rfl rfl ?_)
    | (refine at_storeD (w.heap.size + 1) zeroD _ G2.out.f.z _ _ rfl rfl rfl rfl ?_; intro w2 hw2))
  refine retD Tryz.results17 rfl hw2.out.1 rfl ⟨rfl, G2.out.f.low.trans (hw2.out.2.1 _ G2.out.f.l2)⟩

theorem ydrun (w : World) (c : Cp) (hc : c.wf) (tb : Tabs w) (hm : mayM c) : Calls Tryz.prog 17 #[.agg (cpC c)] w fun e w' => e = .returned (.agg (dvC (runM c))) ∧ Below w.heap.size w w' := by
  obtain ⟨h1, h2, h3, h4, h5, h6, h7⟩ := hm
  have hP : c.P < 16 := by omega
  have hX : c.X < 16 := by omega
  unfold runM
  rcases (show c.Ph = 1 ∨ c.Ph = 2 ∨ c.Ph = 3 ∨ c.Ph = 4 ∨ c.Ph = 5 ∨ c.Ph = 6 ∨ c.Ph = 7 ∨ c.Ph = 8 by omega) with h | h | h | h | h | h | h | h <;> simp only [h]
  · exact ydrun1 w c hc tb hP hX h
  · exact ydrun2 w c hc tb hP hX h h5
  · exact ydrun3 w c hc tb hP hX h h5
  · exact ydrun4 w c hc tb hP hX h
  · exact ydrun5 w c hc tb hP hX h
  · exact ydrun6 w c hc tb hP hX h
  · exact ydrun7 w c hc tb hP hX h
  · exact ydrun8 w c hc tb hP hX h
end Go.Proofs.YtbeeefekndcgnaaGreatDoor
