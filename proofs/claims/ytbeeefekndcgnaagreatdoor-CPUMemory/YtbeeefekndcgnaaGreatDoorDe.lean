/- Drive whole. -/
import Derived.Test.YtbeeefekndcgnaaGreatDoorCy
import Derived.Test.YtbeeefekndcgnaaGreatDoorPl
import Derived.Test.YtbeeefekndcgnaaGreatDoorDd
import Derived.Test.YtbeeefekndcgnaaGreatDoorYs
namespace Go.Proofs.YtbeeefekndcgnaaGreatDoor
open Go Go.RowKit
set_option linter.unusedVariables false
set_option maxHeartbeats 1000000
set_option maxRecDepth 20000

theorem ydriveno (w : World) (c : Cp) (hc : c.wf) (tb : Tabs w) (m : Nat) (hch : checkB c = false) : Calls Tryz.prog 9 #[.agg (cpC c), .int .u8 (m : Int)] w fun e w' => e = .returned (.agg (dvC zeroD)) ∧ Below w.heap.size w w' := by
  have hM := fun v t => ymaybe v c hc t
  rw [hch] at hM
  have tb' : Hid (Tabs w) := tb
  have zz := zeroVD
  have hF : Hid (Ge w w.heap.size c (w.heap.size + 1) zeroD ((w.alloc (.cells (cpC c) 26)).alloc (.cells (dvC zeroD) 33))) := Ge.start w c
  clear hc tb hch
  go_enter Tryz.func9, Tryz.ntmps9
  go_wp2_with (first
    | (refine gen_world ((w.alloc (.cells (cpC c) 26)).alloc (.cells (dvC zeroD) 33)) (Ge w w.heap.size c (w.heap.size + 1) zeroD) hF.out ?_; intro y K)
    | (go_at_call 15; refine (hM _ (tb'.out.below K.out.low)).mono ?_; rintro e v1 ⟨rfl, hb1⟩; replace K : Hid _ := K.out.below hb1)
    | (refine at_buildD _ [] zeroD rfl rfl (by first | (simp [Act.eval]; done) | (go_simp; done)) (by kernel_rfl) _ rfl ?_)
    | (refine at_loadC w.heap.size c K.out.c _ rfl rfl rfl ?_)
    | (refine at_storeD (w.heap.size + 1) zeroD _ K.out.z _ _ rfl rfl rfl rfl ?_; intro w2 hw2))
  refine retD Tryz.results9 rfl hw2.out.1 rfl ⟨rfl, K.out.low.trans (hw2.out.2.1 _ K.out.l2)⟩

theorem ydrivebad (w : World) (c : Cp) (hc : c.wf) (tb : Tabs w) (m : Nat) (hch : checkB c = true) (h : 3 < m) : Calls Tryz.prog 9 #[.agg (cpC c), .int .u8 (m : Int)] w fun e w' => e = .returned (.agg (dvC zeroD)) ∧ Below w.heap.size w w' := by
  have hM := fun v t => ymaybe v c hc t
  rw [hch] at hM
  have tb' : Hid (Tabs w) := tb
  have m0 : ((m : Int) == 0) = false := by simp; omega
  have m1 : ((m : Int) == 1) = false := by simp; omega
  have m2 : ((m : Int) == 2) = false := by simp; omega
  have m3 : ((m : Int) == 3) = false := by simp; omega
  have zz := zeroVD
  have hF : Hid (Ge w w.heap.size c (w.heap.size + 1) zeroD ((w.alloc (.cells (cpC c) 26)).alloc (.cells (dvC zeroD) 33))) := Ge.start w c
  clear hc tb hch h
  go_enter Tryz.func9, Tryz.ntmps9
  go_wp2_with (first
    | (refine gen_world ((w.alloc (.cells (cpC c) 26)).alloc (.cells (dvC zeroD) 33)) (Ge w w.heap.size c (w.heap.size + 1) zeroD) hF.out ?_; intro y K)
    | (go_at_call 15; refine (hM _ (tb'.out.below K.out.low)).mono ?_; rintro e v1 ⟨rfl, hb1⟩; replace K : Hid _ := K.out.below hb1)
    | (refine at_buildD _ [] zeroD rfl rfl (by first | (simp [Act.eval]; done) | (go_simp; done)) (by kernel_rfl) _ rfl ?_)
    | (refine at_loadC w.heap.size c K.out.c _ rfl rfl rfl ?_)
    | (refine at_storeD (w.heap.size + 1) zeroD _ K.out.z _ _ rfl rfl rfl rfl ?_; intro w2 hw2))
  refine retD Tryz.results9 rfl hw2.out.1 rfl ⟨rfl, K.out.low.trans (hw2.out.2.1 _ K.out.l2)⟩

theorem ydrive2 (w : World) (c : Cp) (hc : c.wf) (tb : Tabs w) (m : Nat) (hch : checkB c = true) (h : m = 2) : Calls Tryz.prog 9 #[.agg (cpC c), .int .u8 (m : Int)] w fun e w' => e = .returned (.agg (dvC ⟨1, c.R 0, false, false, true, 0, 0, false⟩)) ∧ Below w.heap.size w w' := by
  have hM := fun v t => ymaybe v c hc t
  rw [hch] at hM
  have tb' : Hid (Tabs w) := tb
  subst h
  have zz := zeroVD
  have hF : Hid (Ge w w.heap.size c (w.heap.size + 1) zeroD ((w.alloc (.cells (cpC c) 26)).alloc (.cells (dvC zeroD) 33))) := Ge.start w c
  clear hc tb hch
  go_enter Tryz.func9, Tryz.ntmps9
  go_wp2_with (first
    | (refine gen_world ((w.alloc (.cells (cpC c) 26)).alloc (.cells (dvC zeroD) 33)) (Ge w w.heap.size c (w.heap.size + 1) zeroD) hF.out ?_; intro y K)
    | (go_at_call 15; refine (hM _ (tb'.out.below K.out.low)).mono ?_; rintro e v1 ⟨rfl, hb1⟩; replace K : Hid _ := K.out.below hb1; have d0 := K.out.c.r 0 (by decide))
    | (refine at_buildD _ [(0, .int .u8 1), (1, .int .u16 (c.R 0)), (4, .bool true)] ⟨1, c.R 0, false, false, true, 0, 0, false⟩ rfl rfl (by first | (simp [Act.eval]; done) | (go_simp; done)) (by kernel_rfl) _ rfl ?_)
    | (refine at_loadC w.heap.size c K.out.c _ rfl rfl rfl ?_)
    | (refine at_storeD (w.heap.size + 1) zeroD _ K.out.z _ _ rfl rfl rfl rfl ?_; intro w2 hw2))
  refine retD Tryz.results9 rfl hw2.out.1 rfl ⟨rfl, K.out.low.trans (hw2.out.2.1 _ K.out.l2)⟩

theorem ydrive0 (w : World) (c : Cp) (hc : c.wf) (tb : Tabs w) (m : Nat) (hch : checkB c = true) (h : m = 0) : Calls Tryz.prog 9 #[.agg (cpC c), .int .u8 (m : Int)] w fun e w' => e = .returned (.agg (dvC (runM c))) ∧ Below w.heap.size w w' := by
  have hM := fun v t => ymaybe v c hc t
  rw [hch] at hM
  have tb' : Hid (Tabs w) := tb
  subst h
  have hr := fun v t => ydrun v c hc t ((checkB_iff c).1 hch)
  have zz := zeroVD
  have hF : Hid (Ge w w.heap.size c (w.heap.size + 1) zeroD ((w.alloc (.cells (cpC c) 26)).alloc (.cells (dvC zeroD) 33))) := Ge.start w c
  clear hc tb hch
  go_enter Tryz.func9, Tryz.ntmps9
  go_wp2_with (first
    | (refine gen_world ((w.alloc (.cells (cpC c) 26)).alloc (.cells (dvC zeroD) 33)) (Ge w w.heap.size c (w.heap.size + 1) zeroD) hF.out ?_; intro y K)
    | (go_at_call 15; refine (hM _ (tb'.out.below K.out.low)).mono ?_; rintro e v1 ⟨rfl, hb1⟩; replace K : Hid _ := K.out.below hb1)
    | (go_at_call 17; refine (hr _ (tb'.out.below K.out.low)).mono ?_; rintro e v2 ⟨rfl, hb2⟩; replace K : Hid _ := K.out.below hb2)
    | (refine at_loadC w.heap.size c K.out.c _ rfl rfl rfl ?_)
    | (refine at_storeD (w.heap.size + 1) zeroD _ K.out.z _ _ rfl rfl rfl rfl ?_; intro w2 hw2))
  refine retD Tryz.results9 rfl hw2.out.1 rfl ⟨rfl, K.out.low.trans (hw2.out.2.1 _ K.out.l2)⟩

theorem ydrive3 (w : World) (c : Cp) (hc : c.wf) (tb : Tabs w) (m : Nat) (hch : checkB c = true) (h : m = 3) : Calls Tryz.prog 9 #[.agg (cpC c), .int .u8 (m : Int)] w fun e w' => e = .returned (.agg (dvC (runM (loadingM c)))) ∧ Below w.heap.size w w' := by
  have hM := fun v t => ymaybe v c hc t
  rw [hch] at hM
  have tb' : Hid (Tabs w) := tb
  subst h
  have hl := fun v => yloading v c
  have hr := fun v t => ydrun v (loadingM c) (loadingM_wf c hc) t (loadingM_may c ((checkB_iff c).1 hch))
  have zz := zeroVD
  have hF : Hid (Ge w w.heap.size c (w.heap.size + 1) zeroD ((w.alloc (.cells (cpC c) 26)).alloc (.cells (dvC zeroD) 33))) := Ge.start w c
  clear hc tb hch
  go_enter Tryz.func9, Tryz.ntmps9
  go_wp2_with (first
    | (refine gen_world ((w.alloc (.cells (cpC c) 26)).alloc (.cells (dvC zeroD) 33)) (Ge w w.heap.size c (w.heap.size + 1) zeroD) hF.out ?_; intro y K)
    | (go_at_call 15; refine (hM _ (tb'.out.below K.out.low)).mono ?_; rintro e v1 ⟨rfl, hb1⟩; replace K : Hid _ := K.out.below hb1)
    | (go_at_call 18; refine (hl _).mono ?_; rintro e v3 ⟨rfl, hb3⟩; replace K : Hid _ := K.out.below hb3)
    | (go_at_call 17; refine (hr _ (tb'.out.below K.out.low)).mono ?_; rintro e v2 ⟨rfl, hb2⟩; replace K : Hid _ := K.out.below hb2)
    | (refine at_loadC w.heap.size c K.out.c _ rfl rfl rfl ?_)
    | (refine at_storeD (w.heap.size + 1) zeroD _ K.out.z _ _ rfl rfl rfl rfl ?_; intro w2 hw2))
  refine retD Tryz.results9 rfl hw2.out.1 rfl ⟨rfl, K.out.low.trans (hw2.out.2.1 _ K.out.l2)⟩

theorem ydrive1 (w : World) (c : Cp) (hc : c.wf) (tb : Tabs w) (m : Nat) (hch : checkB c = true) (h : m = 1) : Calls Tryz.prog 9 #[.agg (cpC c), .int .u8 (m : Int)] w fun e w' => e = .returned (.agg (dvC (⟨(runM c).Code, (runM c).Addr, false, false, false, 0, 0, false⟩ : Dv))) ∧ Below w.heap.size w w' := by
  have hM := fun v t => ymaybe v c hc t
  rw [hch] at hM
  have tb' : Hid (Tabs w) := tb
  subst h
  have hr := fun v t => ydrun v c hc t ((checkB_iff c).1 hch)
  obtain ⟨D, hD⟩ : ∃ D, runM c = D := ⟨_, rfl⟩
  rw [hD] at hr ⊢
  have zz := zeroVD
  have hF : Hid (Ge w w.heap.size c (w.heap.size + 1) zeroD ((w.alloc (.cells (cpC c) 26)).alloc (.cells (dvC zeroD) 33))) := Ge.start w c
  clear hc tb hch hD
  go_enter Tryz.func9, Tryz.ntmps9
  go_wp2_with (first
    | (refine gen_world ((w.alloc (.cells (cpC c) 26)).alloc (.cells (dvC zeroD) 33)) (Ge w w.heap.size c (w.heap.size + 1) zeroD) hF.out ?_; intro y K)
    | (go_at_call 15; refine (hM _ (tb'.out.below K.out.low)).mono ?_; rintro e v1 ⟨rfl, hb1⟩; replace K : Hid _ := K.out.below hb1)
    | (go_at_call 17; refine (hr _ (tb'.out.below K.out.low)).mono ?_; rintro e v2 ⟨rfl, hb2⟩; replace K : Hid _ := K.out.below hb2)
    | (refine gen_world (v2.alloc (.cells (dvC zeroD) 33)) (Gl w w.heap.size c (w.heap.size + 1) zeroD v2.heap.size (zeroD : Dv)) (Gl.new K.out _) ?_; intro y3 K3)
    | (refine at_storeD v2.heap.size zeroD D K3.out.l _ _ rfl rfl rfl rfl ?_; intro y4 hw4; have K4 : Hid (Gl w w.heap.size c (w.heap.size + 1) zeroD v2.heap.size (D : Dv) y4) := K3.out.putL hw4.out; have d0 := K4.out.l.f0; have d1 := K4.out.l.f1)
    | (refine at_buildD _ [(0, .int .u8 D.Code), (1, .int .u16 D.Addr)] ⟨D.Code, D.Addr, false, false, false, 0, 0, false⟩ rfl rfl (by first | (simp [Act.eval]; done) | (go_simp; done)) (by kernel_rfl) _ rfl ?_)
    | (refine at_loadC w.heap.size c K.out.c _ rfl rfl rfl ?_)
    | (refine at_storeD (w.heap.size + 1) zeroD _ K4.out.f.z _ _ rfl rfl rfl rfl ?_; intro w2 hw2))
  refine retD Tryz.results9 rfl hw2.out.1 rfl ⟨rfl, K4.out.f.low.trans (hw2.out.2.1 _ K4.out.f.l2)⟩

theorem ydrive (w : World) (c : Cp) (hc : c.wf) (tb : Tabs w) (m : Nat) (hm : m < 256) : Calls Tryz.prog 9 #[.agg (cpC c), .int .u8 (m : Int)] w fun e w' => e = .returned (.agg (dvC (driveM c m))) ∧ Below w.heap.size w w' := by
  unfold driveM
  rcases hch : checkB c with _ | _
  · exact ydriveno w c hc tb m hch
  · rw [if_pos rfl]
    by_cases h0 : m = 0
    · rw [if_pos h0]; exact ydrive0 w c hc tb m hch h0
    · rw [if_neg h0]
      by_cases h1 : m = 1
      · rw [if_pos h1]; exact ydrive1 w c hc tb m hch h1
      · rw [if_neg h1]
        by_cases h2 : m = 2
        · rw [if_pos h2]; exact ydrive2 w c hc tb m hch h2
        · rw [if_neg h2]
          by_cases h3 : m = 3
          · rw [if_pos h3]
            have := ydrive3 w c hc tb m hch h3
            unfold loadingM at this
            by_cases h5 : c.Ph = 5 ∨ c.Ph = 6
            · rw [if_pos h5] at this ⊢; exact this
            · rw [if_neg h5] at this ⊢; exact this
          · rw [if_neg h3]; exact ydrivebad w c hc tb m hch (by omega)
end Go.Proofs.YtbeeefekndcgnaaGreatDoor
