/- CPUDeaf, case by case -/
import Derived.Test.YtbeeefekndcgnaaDoorLg
import Derived.Test.YtbeeefekndcgnaaDoorLd
import Derived.Test.YtbeeefekndcgnaaDoorLf
namespace Go.Proofs.YtbeeefekndcgnaaDoor
open Go Go.RowKit
set_option linter.unusedVariables false
set_option maxHeartbeats 2000000
set_option maxRecDepth 20000

theorem deaf_p2At (w : World) (c : Cp) (hc : c.wf) (p : Pn) (hp : p.wf) (o : Pn) (ho : o.wf) (tb : Tabs w) (hch : checkB c = true) (N : Cp) (hN : stepM c p = N) (D : Dv) (hDe : driveM c p.Mode = D) (hm : p.Mode = 0) (h1 : c.Ph = 2) (k1 : c.Op < 52) (g2 : D.Rd = true) (e2 : cpC (stepM c { p with EF := o.EF }) = cpC N) : Calls Tryd.prog 4 #[.agg (cpC c), .agg (pnC p), .agg (pnC o)] w fun e w' => e = .returned (.bool true) ∧ Below w.heap.size w w' := by
  have hA := fun v t => lawake v t
  have hM := fun v => lmay v c hc
  have tb' : Hid (Tabs w) := tb
  have hF : Hid (Fm w [(w.heap.size, cpC c, 26), (w.heap.size + 1, pnC p, 30), (w.heap.size + 2, pnC o, 30)] (((w.alloc (.cells (cpC c) 26)).alloc (.cells (pnC p) 30)).alloc (.cells (pnC o) 30))) := Fm.three w c p o
  rw [hch] at hM
  have hS := fun v t => ystep v c hc p hp t
  rw [hN] at hS
  have hD := fun v t => ydrive v c hc t p.Mode hp.Mode
  rw [hDe] at hD
  have hS2 := fun v t => ystep v c hc { p with EF := o.EF } ⟨hp.Mode, hp.Data⟩ t
  have zz := zeroVC
  have zd := zeroVD
  have zp := zeroVP
  have hmo : (p.Mode : Int) = 0 := by omega
  obtain ⟨x, hx⟩ : ∃ x : Int, (c.Op : Int) = x := ⟨_, rfl⟩
  have hph : (c.Ph : Int) = 2 := by omega
  have u52 : decide ((52 : Int) ≤ x) = false := by simp; omega
  have u192 : decide ((192 : Int) ≤ x) = false := by simp; omega
  rw [hmo] at hD
  replace hmo : Hid _ := hmo
  replace hph : Hid _ := hph
  replace hx : Hid _ := hx
  replace g2 : Hid _ := g2
  replace e2 : Hid _ := e2
  clear hc hp ho tb hch hN hDe hm h1 k1
  go_enter Tryd.func4, Tryd.ntmps4
  go_wp2_with (first
    | (refine gen_world (((w.alloc (.cells (cpC c) 26)).alloc (.cells (pnC p) 30)).alloc (.cells (pnC o) 30)) (Fm w [(w.heap.size, cpC c, 26), (w.heap.size + 1, pnC p, 30), (w.heap.size + 2, pnC o, 30)]) (hF.out) ?_; intro y K0)
    | (go_at_call 12; refine (hA _ (tb'.out.below K0.out.low)).mono ?_; rintro e v1 ⟨rfl, hb1⟩; have K1 : Hid _ := K0.out.below hb1)
    | (refine at_loadC w.heap.size c (K1.out.get 0 _ _ _ rfl) _ rfl rfl rfl ?_)
    | (go_at_call 8; refine (hM _).mono ?_; rintro e v2 ⟨rfl, hb2⟩; have K2 : Hid _ := K1.out.below hb2; have dM := BoxP.fMode (K2.out.get 1 _ _ _ rfl); rw [hmo.out] at dM; refine stopAt ?_))
  refine Stop.go ?_
  clear K0 K1 hb1 hb2 hF
  go_wp2_with (first
    | (go_at_call 11; refine (hD _ (tb'.out.below K2.out.low)).mono ?_; rintro e v4 ⟨rfl, hb4⟩; have K4 : Hid _ := K2.out.below hb4)
    | ((with_reducible refine gen_world _ (Fm w [(w.heap.size, cpC c, 26), (w.heap.size + 1, pnC p, 30), (w.heap.size + 2, pnC o, 30), (v4.heap.size, dvC zeroD, 37)]) ?_ ?_); exact K4.out.new _ _; intro y5 K5)
    | ((with_reducible refine at_storeD v4.heap.size zeroD D ?_ (.tmp 9) (.tmp 37) ?_ ?_ ?_ ?_ ?_); exact K5.out.get 3 _ _ _ rfl; rfl; rfl; rfl; rfl; intro y6 hw6; have K6 : Hid (Fm w [(w.heap.size, cpC c, 26), (w.heap.size + 1, pnC p, 30), (w.heap.size + 2, pnC o, 30), (v4.heap.size, dvC D, 37)] y6) := K5.out.put 3 _ _ _ _ rfl hw6.out)
    | (go_at_call 10; refine (hS _ (tb'.out.below K6.out.low)).mono ?_; rintro e v7 ⟨rfl, hb7⟩; have K7 : Hid _ := K6.out.below hb7)
    | ((with_reducible refine gen_world _ (Fm w [(w.heap.size, cpC c, 26), (w.heap.size + 1, pnC p, 30), (w.heap.size + 2, pnC o, 30), (v4.heap.size, dvC D, 37), (v7.heap.size, cpC zeroC, 26)]) ?_ ?_); exact K7.out.new _ _; intro y8 K8)
    | ((with_reducible refine at_storeC v7.heap.size zeroC N ?_ (.tmp 10) (.tmp 40) ?_ ?_ ?_ ?_ ?_); exact K8.out.get 4 _ _ _ rfl; rfl; rfl; rfl; rfl; intro y9 hw9; have K9 : Hid (Fm w [(w.heap.size, cpC c, 26), (w.heap.size + 1, pnC p, 30), (w.heap.size + 2, pnC o, 30), (v4.heap.size, dvC D, 37), (v7.heap.size, cpC N, 26)] y9) := K8.out.put 4 _ _ _ _ rfl hw9.out; have dM := BoxP.fMode (K9.out.get 1 _ _ _ rfl); rw [hmo.out] at dM; have d23 := BoxC.fOp (K9.out.get 0 _ _ _ rfl); rw [hx.out] at d23; have d25 := BoxC.fPh (K9.out.get 0 _ _ _ rfl); rw [hph.out] at d25; have x2 := BoxD.f2 (K9.out.get 3 _ _ _ rfl); rw [g2.out] at x2; have x3 := BoxD.f3 (K9.out.get 3 _ _ _ rfl); have x4 := BoxD.f4 (K9.out.get 3 _ _ _ rfl); refine stopAt ?_)
    | ((with_reducible refine at_loadC w.heap.size c ?_ (.tmp 3) ?_ ?_ ?_ ?_); exact K6.out.get 0 _ _ _ rfl; rfl; rfl; rfl)
    | ((with_reducible refine at_loadP (w.heap.size + 1) p ?_ (.tmp 4) ?_ ?_ ?_ ?_); exact K6.out.get 1 _ _ _ rfl; rfl; rfl; rfl)
    | ((with_reducible refine at_loadC w.heap.size c ?_ (.tmp 3) ?_ ?_ ?_ ?_); exact K2.out.get 0 _ _ _ rfl; rfl; rfl; rfl))
  refine Stop.go ?_
  clear K2 K4 K5 K6 K7 K8 hw6 hw9 hb4 hb7
  go_wp2_with (first
    | ((with_reducible refine gen_world _ (Fm w [(w.heap.size, cpC c, 26), (w.heap.size + 1, pnC p, 30), (w.heap.size + 2, pnC o, 30), (v4.heap.size, dvC D, 37), (v7.heap.size, cpC N, 26), (y9.heap.size, pnC zeroP, 30)]) ?_ ?_); exact K9.out.new _ _; intro b0 bK0)
    | ((with_reducible refine at_storeP y9.heap.size zeroP p ?_ (.tmp 16) (.tmp 112) ?_ ?_ ?_ ?_ ?_); exact bK0.out.get 5 _ _ _ rfl; rfl; rfl; rfl; rfl; intro b1 bhw; have bK1 : Hid (Fm w [(w.heap.size, cpC c, 26), (w.heap.size + 1, pnC p, 30), (w.heap.size + 2, pnC o, 30), (v4.heap.size, dvC D, 37), (v7.heap.size, cpC N, 26), (y9.heap.size, pnC p, 30)] b1) := bK0.out.put 5 _ _ _ _ rfl bhw.out; skip)
    | ((with_reducible refine at_loadE (w.heap.size + 2) o ?_ (.tmp 113) ?_ ?_ ?_ ?_); exact bK1.out.get 2 _ _ _ rfl; rfl; rfl; rfl)
    | ((with_reducible refine at_storeE (V := w) (l := [(w.heap.size, cpC c, 26), (w.heap.size + 1, pnC p, 30), (w.heap.size + 2, pnC o, 30), (v4.heap.size, dvC D, 37), (v7.heap.size, cpC N, 26), (y9.heap.size, pnC p, 30)]) 5 y9.heap.size p o ?_ ?_ (.tmp 115) (.tmp 114) ?_ ?_ ?_ ?_ ?_); exact bK1.out; rfl; rfl; rfl; rfl; rfl; intro by1 bK; replace bK : Hid (Fm w [(w.heap.size, cpC c, 26), (w.heap.size + 1, pnC p, 30), (w.heap.size + 2, pnC o, 30), (v4.heap.size, dvC D, 37), (v7.heap.size, cpC N, 26), (y9.heap.size, pnC { p with EF := o.EF }, 30)] by1) := bK)
    | ((with_reducible refine at_loadP (w.heap.size + 1) p ?_ (.tmp 4) ?_ ?_ ?_ ?_); exact K9.out.get 1 _ _ _ rfl; rfl; rfl; rfl))
  refine wp_region_held_drew (S := Fm w [(w.heap.size, cpC c, 26), (w.heap.size + 1, pnC p, 30), (w.heap.size + 2, pnC o, 30), (v4.heap.size, dvC D, 37), (v7.heap.size, cpC N, 26), (y9.heap.size, pnC { p with EF := o.EF }, 30)]) (by kernel_rfl) (bK.out.below (below_drew (Below.refl _ _))) (fun hH => ?_)
  generalize by1.drew = z0 at hH ⊢
  refine wpAnyH_take (i := 0) (v := .agg (cpC c)) rfl (by kernel_rfl) (by kernel_rfl) (by kernel_rfl) (fun _ _ _ h => h) (yieldsC w.heap.size c (fun _ h => h.get 0 _ _ _ rfl) _ rfl rfl rfl) hH ?_
  try simp only [Act.put, List.setIfInBounds_toArray]
  refine wpAnyH_take (i := 1) (v := .agg (pnC { p with EF := o.EF })) rfl (by kernel_rfl) (by kernel_rfl) (by kernel_rfl) (fun _ _ _ h => h) (yieldsP y9.heap.size { p with EF := o.EF } (fun _ h => h.get 5 _ _ _ rfl) _ rfl rfl rfl) hH ?_
  try simp only [Act.put]
  refine wpAnyH_take (i := 3) (v := .agg (cpC N)) rfl (by kernel_rfl) (by kernel_rfl) (by kernel_rfl) (fun _ _ _ h => h) (yieldsC v7.heap.size N (fun _ h => h.get 4 _ _ _ rfl) _ rfl rfl rfl) hH ?_
  try simp only [Act.put]
  refine wpAnyH_ready (rs := [2]) (by kernel_rfl) (by simp) (AllReadyH.cons rfl (fun K hK => ?_) AllReadyH.nil)
  rw [if_pos (by rfl)]
  go_wp2_with (go_at_call 10; refine (hS2 _ (tb'.out.below hH.low)).mono ?_; rintro e by1c ⟨rfl, hbc⟩)
  refine hK.out _ _ (hH.below hbc) (fun hH => ?_)
  clear hK K hbc
  try simp only [Act.put, List.setIfInBounds_toArray, List.set_cons_zero, List.set_cons_succ]
  refine wpAnyH_take (i := 4) (v := .bool false) rfl (by kernel_rfl) (by kernel_rfl) (by kernel_rfl) (fun _ _ _ h => h) (yields_neC _ N e2.out _ _ _ rfl rfl rfl rfl) hH ?_
  try simp only [Act.put, List.setIfInBounds_toArray]
  refine wpAnyH_done (by kernel_rfl) ?_ _
  have K11 : Hid (Fm w [(w.heap.size, cpC c, 26), (w.heap.size + 1, pnC p, 30), (w.heap.size + 2, pnC o, 30), (v4.heap.size, dvC D, 37), (v7.heap.size, cpC N, 26), (y9.heap.size, pnC { p with EF := o.EF }, 30)] by1c) := hH
  clear hH bK
  clear bK0 bK1 bhw K9
  have dM := BoxP.fMode (K11.out.get 1 _ _ _ rfl)
  rw [hmo.out] at dM
  have d23 := BoxC.fOp (K11.out.get 0 _ _ _ rfl)
  rw [hx.out] at d23
  have d25 := BoxC.fPh (K11.out.get 0 _ _ _ rfl)
  rw [hph.out] at d25
  go_simp
  go_wp2
  go_ret
  exact ⟨by first | rfl | simp, K11.out.low⟩

theorem deaf_p2Af (w : World) (c : Cp) (hc : c.wf) (p : Pn) (hp : p.wf) (o : Pn) (ho : o.wf) (tb : Tabs w) (hch : checkB c = true) (N : Cp) (hN : stepM c p = N) (D : Dv) (hDe : driveM c p.Mode = D) (hm : p.Mode = 0) (h1 : c.Ph = 2) (k1 : c.Op < 52) (g2 : D.Rd = false) (g3 : D.Wr = false) (e1 : cpC (stepM c { p with Data := o.Data }) = cpC N) (e2 : cpC (stepM c { p with EF := o.EF }) = cpC N) : Calls Tryd.prog 4 #[.agg (cpC c), .agg (pnC p), .agg (pnC o)] w fun e w' => e = .returned (.bool true) ∧ Below w.heap.size w w' := by
  have hA := fun v t => lawake v t
  have hM := fun v => lmay v c hc
  have tb' : Hid (Tabs w) := tb
  have hF : Hid (Fm w [(w.heap.size, cpC c, 26), (w.heap.size + 1, pnC p, 30), (w.heap.size + 2, pnC o, 30)] (((w.alloc (.cells (cpC c) 26)).alloc (.cells (pnC p) 30)).alloc (.cells (pnC o) 30))) := Fm.three w c p o
  rw [hch] at hM
  have hS := fun v t => ystep v c hc p hp t
  rw [hN] at hS
  have hD := fun v t => ydrive v c hc t p.Mode hp.Mode
  rw [hDe] at hD
  have hS1 := fun v t => ystep v c hc { p with Data := o.Data } ⟨hp.Mode, ho.Data⟩ t
  have hS2 := fun v t => ystep v c hc { p with EF := o.EF } ⟨hp.Mode, hp.Data⟩ t
  have zz := zeroVC
  have zd := zeroVD
  have zp := zeroVP
  have hmo : (p.Mode : Int) = 0 := by omega
  obtain ⟨x, hx⟩ : ∃ x : Int, (c.Op : Int) = x := ⟨_, rfl⟩
  have hph : (c.Ph : Int) = 2 := by omega
  have u52 : decide ((52 : Int) ≤ x) = false := by simp; omega
  have u192 : decide ((192 : Int) ≤ x) = false := by simp; omega
  rw [hmo] at hD
  replace hmo : Hid _ := hmo
  replace hph : Hid _ := hph
  replace hx : Hid _ := hx
  replace g2 : Hid _ := g2
  replace g3 : Hid _ := g3
  replace e1 : Hid _ := e1
  replace e2 : Hid _ := e2
  clear hc hp ho tb hch hN hDe hm h1 k1
  go_enter Tryd.func4, Tryd.ntmps4
  go_wp2_with (first
    | (refine gen_world (((w.alloc (.cells (cpC c) 26)).alloc (.cells (pnC p) 30)).alloc (.cells (pnC o) 30)) (Fm w [(w.heap.size, cpC c, 26), (w.heap.size + 1, pnC p, 30), (w.heap.size + 2, pnC o, 30)]) (hF.out) ?_; intro y K0)
    | (go_at_call 12; refine (hA _ (tb'.out.below K0.out.low)).mono ?_; rintro e v1 ⟨rfl, hb1⟩; have K1 : Hid _ := K0.out.below hb1)
    | (refine at_loadC w.heap.size c (K1.out.get 0 _ _ _ rfl) _ rfl rfl rfl ?_)
    | (go_at_call 8; refine (hM _).mono ?_; rintro e v2 ⟨rfl, hb2⟩; have K2 : Hid _ := K1.out.below hb2; have dM := BoxP.fMode (K2.out.get 1 _ _ _ rfl); rw [hmo.out] at dM; refine stopAt ?_))
  refine Stop.go ?_
  clear K0 K1 hb1 hb2 hF
  go_wp2_with (first
    | (go_at_call 11; refine (hD _ (tb'.out.below K2.out.low)).mono ?_; rintro e v4 ⟨rfl, hb4⟩; have K4 : Hid _ := K2.out.below hb4)
    | ((with_reducible refine gen_world _ (Fm w [(w.heap.size, cpC c, 26), (w.heap.size + 1, pnC p, 30), (w.heap.size + 2, pnC o, 30), (v4.heap.size, dvC zeroD, 37)]) ?_ ?_); exact K4.out.new _ _; intro y5 K5)
    | ((with_reducible refine at_storeD v4.heap.size zeroD D ?_ (.tmp 9) (.tmp 37) ?_ ?_ ?_ ?_ ?_); exact K5.out.get 3 _ _ _ rfl; rfl; rfl; rfl; rfl; intro y6 hw6; have K6 : Hid (Fm w [(w.heap.size, cpC c, 26), (w.heap.size + 1, pnC p, 30), (w.heap.size + 2, pnC o, 30), (v4.heap.size, dvC D, 37)] y6) := K5.out.put 3 _ _ _ _ rfl hw6.out)
    | (go_at_call 10; refine (hS _ (tb'.out.below K6.out.low)).mono ?_; rintro e v7 ⟨rfl, hb7⟩; have K7 : Hid _ := K6.out.below hb7)
    | ((with_reducible refine gen_world _ (Fm w [(w.heap.size, cpC c, 26), (w.heap.size + 1, pnC p, 30), (w.heap.size + 2, pnC o, 30), (v4.heap.size, dvC D, 37), (v7.heap.size, cpC zeroC, 26)]) ?_ ?_); exact K7.out.new _ _; intro y8 K8)
    | ((with_reducible refine at_storeC v7.heap.size zeroC N ?_ (.tmp 10) (.tmp 40) ?_ ?_ ?_ ?_ ?_); exact K8.out.get 4 _ _ _ rfl; rfl; rfl; rfl; rfl; intro y9 hw9; have K9 : Hid (Fm w [(w.heap.size, cpC c, 26), (w.heap.size + 1, pnC p, 30), (w.heap.size + 2, pnC o, 30), (v4.heap.size, dvC D, 37), (v7.heap.size, cpC N, 26)] y9) := K8.out.put 4 _ _ _ _ rfl hw9.out; have dM := BoxP.fMode (K9.out.get 1 _ _ _ rfl); rw [hmo.out] at dM; have d23 := BoxC.fOp (K9.out.get 0 _ _ _ rfl); rw [hx.out] at d23; have d25 := BoxC.fPh (K9.out.get 0 _ _ _ rfl); rw [hph.out] at d25; have x2 := BoxD.f2 (K9.out.get 3 _ _ _ rfl); rw [g2.out] at x2; have x3 := BoxD.f3 (K9.out.get 3 _ _ _ rfl); rw [g3.out] at x3; have x4 := BoxD.f4 (K9.out.get 3 _ _ _ rfl); refine stopAt ?_)
    | ((with_reducible refine at_loadC w.heap.size c ?_ (.tmp 3) ?_ ?_ ?_ ?_); exact K6.out.get 0 _ _ _ rfl; rfl; rfl; rfl)
    | ((with_reducible refine at_loadP (w.heap.size + 1) p ?_ (.tmp 4) ?_ ?_ ?_ ?_); exact K6.out.get 1 _ _ _ rfl; rfl; rfl; rfl)
    | ((with_reducible refine at_loadC w.heap.size c ?_ (.tmp 3) ?_ ?_ ?_ ?_); exact K2.out.get 0 _ _ _ rfl; rfl; rfl; rfl))
  refine Stop.go ?_
  clear K2 K4 K5 K6 K7 K8 hw6 hw9 hb4 hb7
  go_wp2_with (first
    | ((with_reducible refine gen_world _ (Fm w [(w.heap.size, cpC c, 26), (w.heap.size + 1, pnC p, 30), (w.heap.size + 2, pnC o, 30), (v4.heap.size, dvC D, 37), (v7.heap.size, cpC N, 26), (y9.heap.size, pnC zeroP, 30)]) ?_ ?_); exact K9.out.new _ _; intro a0 aK0)
    | ((with_reducible refine at_storeP y9.heap.size zeroP p ?_ (.tmp 14) (.tmp 82) ?_ ?_ ?_ ?_ ?_); exact aK0.out.get 5 _ _ _ rfl; rfl; rfl; rfl; rfl; intro a1 ahw; have aK1 : Hid (Fm w [(w.heap.size, cpC c, 26), (w.heap.size + 1, pnC p, 30), (w.heap.size + 2, pnC o, 30), (v4.heap.size, dvC D, 37), (v7.heap.size, cpC N, 26), (y9.heap.size, pnC p, 30)] a1) := aK0.out.put 5 _ _ _ _ rfl ahw.out; have ao : a1.cell? ⟨w.heap.size + 2, 1, none⟩ = some (.int .u8 o.Data) := BoxP.fData (aK1.out.get 2 _ _ _ rfl); have aq := BoxP.fData (p := p) (aK1.out.get 5 _ _ _ rfl); have az := frozen_heap (aK1.out.get 5 _ _ _ rfl) 1; have aS : Hid (Fm w [(w.heap.size, cpC c, 26), (w.heap.size + 1, pnC p, 30), (w.heap.size + 2, pnC o, 30), (v4.heap.size, dvC D, 37), (v7.heap.size, cpC N, 26), (y9.heap.size, pnC { p with Data := o.Data }, 30)] (a1.setCell ⟨y9.heap.size, 1, none⟩ (.int .u8 o.Data))) := aK1.out.setCell 5 _ _ _ _ rfl 1 _ rfl)
    | ((with_reducible refine at_loadP (w.heap.size + 1) p ?_ (.tmp 4) ?_ ?_ ?_ ?_); exact K9.out.get 1 _ _ _ rfl; rfl; rfl; rfl))
  refine wp_region_held_drew (S := Fm w [(w.heap.size, cpC c, 26), (w.heap.size + 1, pnC p, 30), (w.heap.size + 2, pnC o, 30), (v4.heap.size, dvC D, 37), (v7.heap.size, cpC N, 26), (y9.heap.size, pnC { p with Data := o.Data }, 30)]) (by kernel_rfl) (aS.out.below (below_drew (Below.refl _ _))) (fun hH => ?_)
  generalize (a1.setCell ⟨y9.heap.size, 1, none⟩ (.int .u8 o.Data)).drew = z0 at hH ⊢
  refine wpAnyH_take (i := 0) (v := .agg (cpC c)) rfl (by kernel_rfl) (by kernel_rfl) (by kernel_rfl) (fun _ _ _ h => h) (yieldsC w.heap.size c (fun _ h => h.get 0 _ _ _ rfl) _ rfl rfl rfl) hH ?_
  try simp only [Act.put, List.setIfInBounds_toArray]
  refine wpAnyH_take (i := 1) (v := .agg (pnC { p with Data := o.Data })) rfl (by kernel_rfl) (by kernel_rfl) (by kernel_rfl) (fun _ _ _ h => h) (yieldsP y9.heap.size { p with Data := o.Data } (fun _ h => h.get 5 _ _ _ rfl) _ rfl rfl rfl) hH ?_
  try simp only [Act.put]
  refine wpAnyH_take (i := 3) (v := .agg (cpC N)) rfl (by kernel_rfl) (by kernel_rfl) (by kernel_rfl) (fun _ _ _ h => h) (yieldsC v7.heap.size N (fun _ h => h.get 4 _ _ _ rfl) _ rfl rfl rfl) hH ?_
  try simp only [Act.put]
  refine wpAnyH_ready (rs := [2]) (by kernel_rfl) (by simp) (AllReadyH.cons rfl (fun K hK => ?_) AllReadyH.nil)
  rw [if_pos (by rfl)]
  go_wp2_with (go_at_call 10; refine (hS1 _ (tb'.out.below hH.low)).mono ?_; rintro e ayc ⟨rfl, hbc⟩)
  refine hK.out _ _ (hH.below hbc) (fun hH => ?_)
  clear hK K hbc
  try simp only [Act.put, List.setIfInBounds_toArray, List.set_cons_zero, List.set_cons_succ]
  refine wpAnyH_take (i := 4) (v := .bool false) rfl (by kernel_rfl) (by kernel_rfl) (by kernel_rfl) (fun _ _ _ h => h) (yields_neC _ N e1.out _ _ _ rfl rfl rfl rfl) hH ?_
  try simp only [Act.put, List.setIfInBounds_toArray]
  refine wpAnyH_done (by kernel_rfl) ?_ _
  have K10 : Hid (Fm w [(w.heap.size, cpC c, 26), (w.heap.size + 1, pnC p, 30), (w.heap.size + 2, pnC o, 30), (v4.heap.size, dvC D, 37), (v7.heap.size, cpC N, 26), (y9.heap.size, pnC { p with Data := o.Data }, 30)] ayc) := hH
  clear hH aS
  clear aK0 aK1 ahw ao aq az K9
  have dM := BoxP.fMode (K10.out.get 1 _ _ _ rfl)
  rw [hmo.out] at dM
  have d23 := BoxC.fOp (K10.out.get 0 _ _ _ rfl)
  rw [hx.out] at d23
  have d25 := BoxC.fPh (K10.out.get 0 _ _ _ rfl)
  rw [hph.out] at d25
  go_simp
  go_wp2_with (first
    | ((with_reducible refine gen_world _ (Fm w [(w.heap.size, cpC c, 26), (w.heap.size + 1, pnC p, 30), (w.heap.size + 2, pnC o, 30), (v4.heap.size, dvC D, 37), (v7.heap.size, cpC N, 26), (y9.heap.size, pnC { p with Data := o.Data }, 30), (ayc.heap.size, pnC zeroP, 30)]) ?_ ?_); exact K10.out.new _ _; intro b0 bK0)
    | ((with_reducible refine at_storeP ayc.heap.size zeroP p ?_ (.tmp 16) (.tmp 112) ?_ ?_ ?_ ?_ ?_); exact bK0.out.get 6 _ _ _ rfl; rfl; rfl; rfl; rfl; intro b1 bhw; have bK1 : Hid (Fm w [(w.heap.size, cpC c, 26), (w.heap.size + 1, pnC p, 30), (w.heap.size + 2, pnC o, 30), (v4.heap.size, dvC D, 37), (v7.heap.size, cpC N, 26), (y9.heap.size, pnC { p with Data := o.Data }, 30), (ayc.heap.size, pnC p, 30)] b1) := bK0.out.put 6 _ _ _ _ rfl bhw.out; skip)
    | ((with_reducible refine at_loadE (w.heap.size + 2) o ?_ (.tmp 113) ?_ ?_ ?_ ?_); exact bK1.out.get 2 _ _ _ rfl; rfl; rfl; rfl)
    | ((with_reducible refine at_storeE (V := w) (l := [(w.heap.size, cpC c, 26), (w.heap.size + 1, pnC p, 30), (w.heap.size + 2, pnC o, 30), (v4.heap.size, dvC D, 37), (v7.heap.size, cpC N, 26), (y9.heap.size, pnC { p with Data := o.Data }, 30), (ayc.heap.size, pnC p, 30)]) 6 ayc.heap.size p o ?_ ?_ (.tmp 115) (.tmp 114) ?_ ?_ ?_ ?_ ?_); exact bK1.out; rfl; rfl; rfl; rfl; rfl; intro by1 bK; replace bK : Hid (Fm w [(w.heap.size, cpC c, 26), (w.heap.size + 1, pnC p, 30), (w.heap.size + 2, pnC o, 30), (v4.heap.size, dvC D, 37), (v7.heap.size, cpC N, 26), (y9.heap.size, pnC { p with Data := o.Data }, 30), (ayc.heap.size, pnC { p with EF := o.EF }, 30)] by1) := bK)
    | ((with_reducible refine at_loadP (w.heap.size + 1) p ?_ (.tmp 4) ?_ ?_ ?_ ?_); exact K10.out.get 1 _ _ _ rfl; rfl; rfl; rfl))
  refine wp_region_held_drew (S := Fm w [(w.heap.size, cpC c, 26), (w.heap.size + 1, pnC p, 30), (w.heap.size + 2, pnC o, 30), (v4.heap.size, dvC D, 37), (v7.heap.size, cpC N, 26), (y9.heap.size, pnC { p with Data := o.Data }, 30), (ayc.heap.size, pnC { p with EF := o.EF }, 30)]) (by kernel_rfl) (bK.out.below (below_drew (Below.refl _ _))) (fun hH => ?_)
  generalize by1.drew = z0 at hH ⊢
  refine wpAnyH_take (i := 0) (v := .agg (cpC c)) rfl (by kernel_rfl) (by kernel_rfl) (by kernel_rfl) (fun _ _ _ h => h) (yieldsC w.heap.size c (fun _ h => h.get 0 _ _ _ rfl) _ rfl rfl rfl) hH ?_
  try simp only [Act.put, List.setIfInBounds_toArray]
  refine wpAnyH_take (i := 1) (v := .agg (pnC { p with EF := o.EF })) rfl (by kernel_rfl) (by kernel_rfl) (by kernel_rfl) (fun _ _ _ h => h) (yieldsP ayc.heap.size { p with EF := o.EF } (fun _ h => h.get 6 _ _ _ rfl) _ rfl rfl rfl) hH ?_
  try simp only [Act.put]
  refine wpAnyH_take (i := 3) (v := .agg (cpC N)) rfl (by kernel_rfl) (by kernel_rfl) (by kernel_rfl) (fun _ _ _ h => h) (yieldsC v7.heap.size N (fun _ h => h.get 4 _ _ _ rfl) _ rfl rfl rfl) hH ?_
  try simp only [Act.put]
  refine wpAnyH_ready (rs := [2]) (by kernel_rfl) (by simp) (AllReadyH.cons rfl (fun K hK => ?_) AllReadyH.nil)
  rw [if_pos (by rfl)]
  go_wp2_with (go_at_call 10; refine (hS2 _ (tb'.out.below hH.low)).mono ?_; rintro e by1c ⟨rfl, hbc⟩)
  refine hK.out _ _ (hH.below hbc) (fun hH => ?_)
  clear hK K hbc
  try simp only [Act.put, List.setIfInBounds_toArray, List.set_cons_zero, List.set_cons_succ]
  refine wpAnyH_take (i := 4) (v := .bool false) rfl (by kernel_rfl) (by kernel_rfl) (by kernel_rfl) (fun _ _ _ h => h) (yields_neC _ N e2.out _ _ _ rfl rfl rfl rfl) hH ?_
  try simp only [Act.put, List.setIfInBounds_toArray]
  refine wpAnyH_done (by kernel_rfl) ?_ _
  have K11 : Hid (Fm w [(w.heap.size, cpC c, 26), (w.heap.size + 1, pnC p, 30), (w.heap.size + 2, pnC o, 30), (v4.heap.size, dvC D, 37), (v7.heap.size, cpC N, 26), (y9.heap.size, pnC { p with Data := o.Data }, 30), (ayc.heap.size, pnC { p with EF := o.EF }, 30)] by1c) := hH
  clear hH bK
  clear bK0 bK1 bhw K10
  have dM := BoxP.fMode (K11.out.get 1 _ _ _ rfl)
  rw [hmo.out] at dM
  have d23 := BoxC.fOp (K11.out.get 0 _ _ _ rfl)
  rw [hx.out] at d23
  have d25 := BoxC.fPh (K11.out.get 0 _ _ _ rfl)
  rw [hph.out] at d25
  go_simp
  go_wp2
  go_ret
  exact ⟨by first | rfl | simp, K11.out.low⟩

theorem deaf_p2Ao (w : World) (c : Cp) (hc : c.wf) (p : Pn) (hp : p.wf) (o : Pn) (ho : o.wf) (tb : Tabs w) (hch : checkB c = true) (N : Cp) (hN : stepM c p = N) (D : Dv) (hDe : driveM c p.Mode = D) (hm : p.Mode = 0) (h1 : c.Ph = 2) (k1 : c.Op < 52) (g2 : D.Rd = false) (g3 : D.Wr = true) (g4 : D.Own = true) (e1 : cpC (stepM c { p with Data := o.Data }) = cpC N) (e2 : cpC (stepM c { p with EF := o.EF }) = cpC N) : Calls Tryd.prog 4 #[.agg (cpC c), .agg (pnC p), .agg (pnC o)] w fun e w' => e = .returned (.bool true) ∧ Below w.heap.size w w' := by
  have hA := fun v t => lawake v t
  have hM := fun v => lmay v c hc
  have tb' : Hid (Tabs w) := tb
  have hF : Hid (Fm w [(w.heap.size, cpC c, 26), (w.heap.size + 1, pnC p, 30), (w.heap.size + 2, pnC o, 30)] (((w.alloc (.cells (cpC c) 26)).alloc (.cells (pnC p) 30)).alloc (.cells (pnC o) 30))) := Fm.three w c p o
  rw [hch] at hM
  have hS := fun v t => ystep v c hc p hp t
  rw [hN] at hS
  have hD := fun v t => ydrive v c hc t p.Mode hp.Mode
  rw [hDe] at hD
  have hS1 := fun v t => ystep v c hc { p with Data := o.Data } ⟨hp.Mode, ho.Data⟩ t
  have hS2 := fun v t => ystep v c hc { p with EF := o.EF } ⟨hp.Mode, hp.Data⟩ t
  have zz := zeroVC
  have zd := zeroVD
  have zp := zeroVP
  have hmo : (p.Mode : Int) = 0 := by omega
  obtain ⟨x, hx⟩ : ∃ x : Int, (c.Op : Int) = x := ⟨_, rfl⟩
  have hph : (c.Ph : Int) = 2 := by omega
  have u52 : decide ((52 : Int) ≤ x) = false := by simp; omega
  have u192 : decide ((192 : Int) ≤ x) = false := by simp; omega
  rw [hmo] at hD
  replace hmo : Hid _ := hmo
  replace hph : Hid _ := hph
  replace hx : Hid _ := hx
  replace g2 : Hid _ := g2
  replace g3 : Hid _ := g3
  replace g4 : Hid _ := g4
  replace e1 : Hid _ := e1
  replace e2 : Hid _ := e2
  clear hc hp ho tb hch hN hDe hm h1 k1
  go_enter Tryd.func4, Tryd.ntmps4
  go_wp2_with (first
    | (refine gen_world (((w.alloc (.cells (cpC c) 26)).alloc (.cells (pnC p) 30)).alloc (.cells (pnC o) 30)) (Fm w [(w.heap.size, cpC c, 26), (w.heap.size + 1, pnC p, 30), (w.heap.size + 2, pnC o, 30)]) (hF.out) ?_; intro y K0)
    | (go_at_call 12; refine (hA _ (tb'.out.below K0.out.low)).mono ?_; rintro e v1 ⟨rfl, hb1⟩; have K1 : Hid _ := K0.out.below hb1)
    | (refine at_loadC w.heap.size c (K1.out.get 0 _ _ _ rfl) _ rfl rfl rfl ?_)
    | (go_at_call 8; refine (hM _).mono ?_; rintro e v2 ⟨rfl, hb2⟩; have K2 : Hid _ := K1.out.below hb2; have dM := BoxP.fMode (K2.out.get 1 _ _ _ rfl); rw [hmo.out] at dM; refine stopAt ?_))
  refine Stop.go ?_
  clear K0 K1 hb1 hb2 hF
  go_wp2_with (first
    | (go_at_call 11; refine (hD _ (tb'.out.below K2.out.low)).mono ?_; rintro e v4 ⟨rfl, hb4⟩; have K4 : Hid _ := K2.out.below hb4)
    | ((with_reducible refine gen_world _ (Fm w [(w.heap.size, cpC c, 26), (w.heap.size + 1, pnC p, 30), (w.heap.size + 2, pnC o, 30), (v4.heap.size, dvC zeroD, 37)]) ?_ ?_); exact K4.out.new _ _; intro y5 K5)
    | ((with_reducible refine at_storeD v4.heap.size zeroD D ?_ (.tmp 9) (.tmp 37) ?_ ?_ ?_ ?_ ?_); exact K5.out.get 3 _ _ _ rfl; rfl; rfl; rfl; rfl; intro y6 hw6; have K6 : Hid (Fm w [(w.heap.size, cpC c, 26), (w.heap.size + 1, pnC p, 30), (w.heap.size + 2, pnC o, 30), (v4.heap.size, dvC D, 37)] y6) := K5.out.put 3 _ _ _ _ rfl hw6.out)
    | (go_at_call 10; refine (hS _ (tb'.out.below K6.out.low)).mono ?_; rintro e v7 ⟨rfl, hb7⟩; have K7 : Hid _ := K6.out.below hb7)
    | ((with_reducible refine gen_world _ (Fm w [(w.heap.size, cpC c, 26), (w.heap.size + 1, pnC p, 30), (w.heap.size + 2, pnC o, 30), (v4.heap.size, dvC D, 37), (v7.heap.size, cpC zeroC, 26)]) ?_ ?_); exact K7.out.new _ _; intro y8 K8)
    | ((with_reducible refine at_storeC v7.heap.size zeroC N ?_ (.tmp 10) (.tmp 40) ?_ ?_ ?_ ?_ ?_); exact K8.out.get 4 _ _ _ rfl; rfl; rfl; rfl; rfl; intro y9 hw9; have K9 : Hid (Fm w [(w.heap.size, cpC c, 26), (w.heap.size + 1, pnC p, 30), (w.heap.size + 2, pnC o, 30), (v4.heap.size, dvC D, 37), (v7.heap.size, cpC N, 26)] y9) := K8.out.put 4 _ _ _ _ rfl hw9.out; have dM := BoxP.fMode (K9.out.get 1 _ _ _ rfl); rw [hmo.out] at dM; have d23 := BoxC.fOp (K9.out.get 0 _ _ _ rfl); rw [hx.out] at d23; have d25 := BoxC.fPh (K9.out.get 0 _ _ _ rfl); rw [hph.out] at d25; have x2 := BoxD.f2 (K9.out.get 3 _ _ _ rfl); rw [g2.out] at x2; have x3 := BoxD.f3 (K9.out.get 3 _ _ _ rfl); rw [g3.out] at x3; have x4 := BoxD.f4 (K9.out.get 3 _ _ _ rfl); rw [g4.out] at x4; refine stopAt ?_)
    | ((with_reducible refine at_loadC w.heap.size c ?_ (.tmp 3) ?_ ?_ ?_ ?_); exact K6.out.get 0 _ _ _ rfl; rfl; rfl; rfl)
    | ((with_reducible refine at_loadP (w.heap.size + 1) p ?_ (.tmp 4) ?_ ?_ ?_ ?_); exact K6.out.get 1 _ _ _ rfl; rfl; rfl; rfl)
    | ((with_reducible refine at_loadC w.heap.size c ?_ (.tmp 3) ?_ ?_ ?_ ?_); exact K2.out.get 0 _ _ _ rfl; rfl; rfl; rfl))
  refine Stop.go ?_
  clear K2 K4 K5 K6 K7 K8 hw6 hw9 hb4 hb7
  go_wp2_with (first
    | ((with_reducible refine gen_world _ (Fm w [(w.heap.size, cpC c, 26), (w.heap.size + 1, pnC p, 30), (w.heap.size + 2, pnC o, 30), (v4.heap.size, dvC D, 37), (v7.heap.size, cpC N, 26), (y9.heap.size, pnC zeroP, 30)]) ?_ ?_); exact K9.out.new _ _; intro a0 aK0)
    | ((with_reducible refine at_storeP y9.heap.size zeroP p ?_ (.tmp 14) (.tmp 82) ?_ ?_ ?_ ?_ ?_); exact aK0.out.get 5 _ _ _ rfl; rfl; rfl; rfl; rfl; intro a1 ahw; have aK1 : Hid (Fm w [(w.heap.size, cpC c, 26), (w.heap.size + 1, pnC p, 30), (w.heap.size + 2, pnC o, 30), (v4.heap.size, dvC D, 37), (v7.heap.size, cpC N, 26), (y9.heap.size, pnC p, 30)] a1) := aK0.out.put 5 _ _ _ _ rfl ahw.out; have ao : a1.cell? ⟨w.heap.size + 2, 1, none⟩ = some (.int .u8 o.Data) := BoxP.fData (aK1.out.get 2 _ _ _ rfl); have aq := BoxP.fData (p := p) (aK1.out.get 5 _ _ _ rfl); have az := frozen_heap (aK1.out.get 5 _ _ _ rfl) 1; have aS : Hid (Fm w [(w.heap.size, cpC c, 26), (w.heap.size + 1, pnC p, 30), (w.heap.size + 2, pnC o, 30), (v4.heap.size, dvC D, 37), (v7.heap.size, cpC N, 26), (y9.heap.size, pnC { p with Data := o.Data }, 30)] (a1.setCell ⟨y9.heap.size, 1, none⟩ (.int .u8 o.Data))) := aK1.out.setCell 5 _ _ _ _ rfl 1 _ rfl)
    | ((with_reducible refine at_loadP (w.heap.size + 1) p ?_ (.tmp 4) ?_ ?_ ?_ ?_); exact K9.out.get 1 _ _ _ rfl; rfl; rfl; rfl))
  refine wp_region_held_drew (S := Fm w [(w.heap.size, cpC c, 26), (w.heap.size + 1, pnC p, 30), (w.heap.size + 2, pnC o, 30), (v4.heap.size, dvC D, 37), (v7.heap.size, cpC N, 26), (y9.heap.size, pnC { p with Data := o.Data }, 30)]) (by kernel_rfl) (aS.out.below (below_drew (Below.refl _ _))) (fun hH => ?_)
  generalize (a1.setCell ⟨y9.heap.size, 1, none⟩ (.int .u8 o.Data)).drew = z0 at hH ⊢
  refine wpAnyH_take (i := 0) (v := .agg (cpC c)) rfl (by kernel_rfl) (by kernel_rfl) (by kernel_rfl) (fun _ _ _ h => h) (yieldsC w.heap.size c (fun _ h => h.get 0 _ _ _ rfl) _ rfl rfl rfl) hH ?_
  try simp only [Act.put, List.setIfInBounds_toArray]
  refine wpAnyH_take (i := 1) (v := .agg (pnC { p with Data := o.Data })) rfl (by kernel_rfl) (by kernel_rfl) (by kernel_rfl) (fun _ _ _ h => h) (yieldsP y9.heap.size { p with Data := o.Data } (fun _ h => h.get 5 _ _ _ rfl) _ rfl rfl rfl) hH ?_
  try simp only [Act.put]
  refine wpAnyH_take (i := 3) (v := .agg (cpC N)) rfl (by kernel_rfl) (by kernel_rfl) (by kernel_rfl) (fun _ _ _ h => h) (yieldsC v7.heap.size N (fun _ h => h.get 4 _ _ _ rfl) _ rfl rfl rfl) hH ?_
  try simp only [Act.put]
  refine wpAnyH_ready (rs := [2]) (by kernel_rfl) (by simp) (AllReadyH.cons rfl (fun K hK => ?_) AllReadyH.nil)
  rw [if_pos (by rfl)]
  go_wp2_with (go_at_call 10; refine (hS1 _ (tb'.out.below hH.low)).mono ?_; rintro e ayc ⟨rfl, hbc⟩)
  refine hK.out _ _ (hH.below hbc) (fun hH => ?_)
  clear hK K hbc
  try simp only [Act.put, List.setIfInBounds_toArray, List.set_cons_zero, List.set_cons_succ]
  refine wpAnyH_take (i := 4) (v := .bool false) rfl (by kernel_rfl) (by kernel_rfl) (by kernel_rfl) (fun _ _ _ h => h) (yields_neC _ N e1.out _ _ _ rfl rfl rfl rfl) hH ?_
  try simp only [Act.put, List.setIfInBounds_toArray]
  refine wpAnyH_done (by kernel_rfl) ?_ _
  have K10 : Hid (Fm w [(w.heap.size, cpC c, 26), (w.heap.size + 1, pnC p, 30), (w.heap.size + 2, pnC o, 30), (v4.heap.size, dvC D, 37), (v7.heap.size, cpC N, 26), (y9.heap.size, pnC { p with Data := o.Data }, 30)] ayc) := hH
  clear hH aS
  clear aK0 aK1 ahw ao aq az K9
  have dM := BoxP.fMode (K10.out.get 1 _ _ _ rfl)
  rw [hmo.out] at dM
  have d23 := BoxC.fOp (K10.out.get 0 _ _ _ rfl)
  rw [hx.out] at d23
  have d25 := BoxC.fPh (K10.out.get 0 _ _ _ rfl)
  rw [hph.out] at d25
  go_simp
  go_wp2_with (first
    | ((with_reducible refine gen_world _ (Fm w [(w.heap.size, cpC c, 26), (w.heap.size + 1, pnC p, 30), (w.heap.size + 2, pnC o, 30), (v4.heap.size, dvC D, 37), (v7.heap.size, cpC N, 26), (y9.heap.size, pnC { p with Data := o.Data }, 30), (ayc.heap.size, pnC zeroP, 30)]) ?_ ?_); exact K10.out.new _ _; intro b0 bK0)
    | ((with_reducible refine at_storeP ayc.heap.size zeroP p ?_ (.tmp 16) (.tmp 112) ?_ ?_ ?_ ?_ ?_); exact bK0.out.get 6 _ _ _ rfl; rfl; rfl; rfl; rfl; intro b1 bhw; have bK1 : Hid (Fm w [(w.heap.size, cpC c, 26), (w.heap.size + 1, pnC p, 30), (w.heap.size + 2, pnC o, 30), (v4.heap.size, dvC D, 37), (v7.heap.size, cpC N, 26), (y9.heap.size, pnC { p with Data := o.Data }, 30), (ayc.heap.size, pnC p, 30)] b1) := bK0.out.put 6 _ _ _ _ rfl bhw.out; skip)
    | ((with_reducible refine at_loadE (w.heap.size + 2) o ?_ (.tmp 113) ?_ ?_ ?_ ?_); exact bK1.out.get 2 _ _ _ rfl; rfl; rfl; rfl)
    | ((with_reducible refine at_storeE (V := w) (l := [(w.heap.size, cpC c, 26), (w.heap.size + 1, pnC p, 30), (w.heap.size + 2, pnC o, 30), (v4.heap.size, dvC D, 37), (v7.heap.size, cpC N, 26), (y9.heap.size, pnC { p with Data := o.Data }, 30), (ayc.heap.size, pnC p, 30)]) 6 ayc.heap.size p o ?_ ?_ (.tmp 115) (.tmp 114) ?_ ?_ ?_ ?_ ?_); exact bK1.out; rfl; rfl; rfl; rfl; rfl; intro by1 bK; replace bK : Hid (Fm w [(w.heap.size, cpC c, 26), (w.heap.size + 1, pnC p, 30), (w.heap.size + 2, pnC o, 30), (v4.heap.size, dvC D, 37), (v7.heap.size, cpC N, 26), (y9.heap.size, pnC { p with Data := o.Data }, 30), (ayc.heap.size, pnC { p with EF := o.EF }, 30)] by1) := bK)
    | ((with_reducible refine at_loadP (w.heap.size + 1) p ?_ (.tmp 4) ?_ ?_ ?_ ?_); exact K10.out.get 1 _ _ _ rfl; rfl; rfl; rfl))
  refine wp_region_held_drew (S := Fm w [(w.heap.size, cpC c, 26), (w.heap.size + 1, pnC p, 30), (w.heap.size + 2, pnC o, 30), (v4.heap.size, dvC D, 37), (v7.heap.size, cpC N, 26), (y9.heap.size, pnC { p with Data := o.Data }, 30), (ayc.heap.size, pnC { p with EF := o.EF }, 30)]) (by kernel_rfl) (bK.out.below (below_drew (Below.refl _ _))) (fun hH => ?_)
  generalize by1.drew = z0 at hH ⊢
  refine wpAnyH_take (i := 0) (v := .agg (cpC c)) rfl (by kernel_rfl) (by kernel_rfl) (by kernel_rfl) (fun _ _ _ h => h) (yieldsC w.heap.size c (fun _ h => h.get 0 _ _ _ rfl) _ rfl rfl rfl) hH ?_
  try simp only [Act.put, List.setIfInBounds_toArray]
  refine wpAnyH_take (i := 1) (v := .agg (pnC { p with EF := o.EF })) rfl (by kernel_rfl) (by kernel_rfl) (by kernel_rfl) (fun _ _ _ h => h) (yieldsP ayc.heap.size { p with EF := o.EF } (fun _ h => h.get 6 _ _ _ rfl) _ rfl rfl rfl) hH ?_
  try simp only [Act.put]
  refine wpAnyH_take (i := 3) (v := .agg (cpC N)) rfl (by kernel_rfl) (by kernel_rfl) (by kernel_rfl) (fun _ _ _ h => h) (yieldsC v7.heap.size N (fun _ h => h.get 4 _ _ _ rfl) _ rfl rfl rfl) hH ?_
  try simp only [Act.put]
  refine wpAnyH_ready (rs := [2]) (by kernel_rfl) (by simp) (AllReadyH.cons rfl (fun K hK => ?_) AllReadyH.nil)
  rw [if_pos (by rfl)]
  go_wp2_with (go_at_call 10; refine (hS2 _ (tb'.out.below hH.low)).mono ?_; rintro e by1c ⟨rfl, hbc⟩)
  refine hK.out _ _ (hH.below hbc) (fun hH => ?_)
  clear hK K hbc
  try simp only [Act.put, List.setIfInBounds_toArray, List.set_cons_zero, List.set_cons_succ]
  refine wpAnyH_take (i := 4) (v := .bool false) rfl (by kernel_rfl) (by kernel_rfl) (by kernel_rfl) (fun _ _ _ h => h) (yields_neC _ N e2.out _ _ _ rfl rfl rfl rfl) hH ?_
  try simp only [Act.put, List.setIfInBounds_toArray]
  refine wpAnyH_done (by kernel_rfl) ?_ _
  have K11 : Hid (Fm w [(w.heap.size, cpC c, 26), (w.heap.size + 1, pnC p, 30), (w.heap.size + 2, pnC o, 30), (v4.heap.size, dvC D, 37), (v7.heap.size, cpC N, 26), (y9.heap.size, pnC { p with Data := o.Data }, 30), (ayc.heap.size, pnC { p with EF := o.EF }, 30)] by1c) := hH
  clear hH bK
  clear bK0 bK1 bhw K10
  have dM := BoxP.fMode (K11.out.get 1 _ _ _ rfl)
  rw [hmo.out] at dM
  have d23 := BoxC.fOp (K11.out.get 0 _ _ _ rfl)
  rw [hx.out] at d23
  have d25 := BoxC.fPh (K11.out.get 0 _ _ _ rfl)
  rw [hph.out] at d25
  go_simp
  go_wp2
  go_ret
  exact ⟨by first | rfl | simp, K11.out.low⟩

theorem deaf_p2Ab (w : World) (c : Cp) (hc : c.wf) (p : Pn) (hp : p.wf) (o : Pn) (ho : o.wf) (tb : Tabs w) (hch : checkB c = true) (N : Cp) (hN : stepM c p = N) (D : Dv) (hDe : driveM c p.Mode = D) (hm : p.Mode = 0) (h1 : c.Ph = 2) (k1 : c.Op < 52) (g2 : D.Rd = false) (g3 : D.Wr = true) (g4 : D.Own = false) (e2 : cpC (stepM c { p with EF := o.EF }) = cpC N) : Calls Tryd.prog 4 #[.agg (cpC c), .agg (pnC p), .agg (pnC o)] w fun e w' => e = .returned (.bool true) ∧ Below w.heap.size w w' := by
  have hA := fun v t => lawake v t
  have hM := fun v => lmay v c hc
  have tb' : Hid (Tabs w) := tb
  have hF : Hid (Fm w [(w.heap.size, cpC c, 26), (w.heap.size + 1, pnC p, 30), (w.heap.size + 2, pnC o, 30)] (((w.alloc (.cells (cpC c) 26)).alloc (.cells (pnC p) 30)).alloc (.cells (pnC o) 30))) := Fm.three w c p o
  rw [hch] at hM
  have hS := fun v t => ystep v c hc p hp t
  rw [hN] at hS
  have hD := fun v t => ydrive v c hc t p.Mode hp.Mode
  rw [hDe] at hD
  have hS2 := fun v t => ystep v c hc { p with EF := o.EF } ⟨hp.Mode, hp.Data⟩ t
  have zz := zeroVC
  have zd := zeroVD
  have zp := zeroVP
  have hmo : (p.Mode : Int) = 0 := by omega
  obtain ⟨x, hx⟩ : ∃ x : Int, (c.Op : Int) = x := ⟨_, rfl⟩
  have hph : (c.Ph : Int) = 2 := by omega
  have u52 : decide ((52 : Int) ≤ x) = false := by simp; omega
  have u192 : decide ((192 : Int) ≤ x) = false := by simp; omega
  rw [hmo] at hD
  replace hmo : Hid _ := hmo
  replace hph : Hid _ := hph
  replace hx : Hid _ := hx
  replace g2 : Hid _ := g2
  replace g3 : Hid _ := g3
  replace g4 : Hid _ := g4
  replace e2 : Hid _ := e2
  clear hc hp ho tb hch hN hDe hm h1 k1
  go_enter Tryd.func4, Tryd.ntmps4
  go_wp2_with (first
    | (refine gen_world (((w.alloc (.cells (cpC c) 26)).alloc (.cells (pnC p) 30)).alloc (.cells (pnC o) 30)) (Fm w [(w.heap.size, cpC c, 26), (w.heap.size + 1, pnC p, 30), (w.heap.size + 2, pnC o, 30)]) (hF.out) ?_; intro y K0)
    | (go_at_call 12; refine (hA _ (tb'.out.below K0.out.low)).mono ?_; rintro e v1 ⟨rfl, hb1⟩; have K1 : Hid _ := K0.out.below hb1)
    | (refine at_loadC w.heap.size c (K1.out.get 0 _ _ _ rfl) _ rfl rfl rfl ?_)
    | (go_at_call 8; refine (hM _).mono ?_; rintro e v2 ⟨rfl, hb2⟩; have K2 : Hid _ := K1.out.below hb2; have dM := BoxP.fMode (K2.out.get 1 _ _ _ rfl); rw [hmo.out] at dM; refine stopAt ?_))
  refine Stop.go ?_
  clear K0 K1 hb1 hb2 hF
  go_wp2_with (first
    | (go_at_call 11; refine (hD _ (tb'.out.below K2.out.low)).mono ?_; rintro e v4 ⟨rfl, hb4⟩; have K4 : Hid _ := K2.out.below hb4)
    | ((with_reducible refine gen_world _ (Fm w [(w.heap.size, cpC c, 26), (w.heap.size + 1, pnC p, 30), (w.heap.size + 2, pnC o, 30), (v4.heap.size, dvC zeroD, 37)]) ?_ ?_); exact K4.out.new _ _; intro y5 K5)
    | ((with_reducible refine at_storeD v4.heap.size zeroD D ?_ (.tmp 9) (.tmp 37) ?_ ?_ ?_ ?_ ?_); exact K5.out.get 3 _ _ _ rfl; rfl; rfl; rfl; rfl; intro y6 hw6; have K6 : Hid (Fm w [(w.heap.size, cpC c, 26), (w.heap.size + 1, pnC p, 30), (w.heap.size + 2, pnC o, 30), (v4.heap.size, dvC D, 37)] y6) := K5.out.put 3 _ _ _ _ rfl hw6.out)
    | (go_at_call 10; refine (hS _ (tb'.out.below K6.out.low)).mono ?_; rintro e v7 ⟨rfl, hb7⟩; have K7 : Hid _ := K6.out.below hb7)
    | ((with_reducible refine gen_world _ (Fm w [(w.heap.size, cpC c, 26), (w.heap.size + 1, pnC p, 30), (w.heap.size + 2, pnC o, 30), (v4.heap.size, dvC D, 37), (v7.heap.size, cpC zeroC, 26)]) ?_ ?_); exact K7.out.new _ _; intro y8 K8)
    | ((with_reducible refine at_storeC v7.heap.size zeroC N ?_ (.tmp 10) (.tmp 40) ?_ ?_ ?_ ?_ ?_); exact K8.out.get 4 _ _ _ rfl; rfl; rfl; rfl; rfl; intro y9 hw9; have K9 : Hid (Fm w [(w.heap.size, cpC c, 26), (w.heap.size + 1, pnC p, 30), (w.heap.size + 2, pnC o, 30), (v4.heap.size, dvC D, 37), (v7.heap.size, cpC N, 26)] y9) := K8.out.put 4 _ _ _ _ rfl hw9.out; have dM := BoxP.fMode (K9.out.get 1 _ _ _ rfl); rw [hmo.out] at dM; have d23 := BoxC.fOp (K9.out.get 0 _ _ _ rfl); rw [hx.out] at d23; have d25 := BoxC.fPh (K9.out.get 0 _ _ _ rfl); rw [hph.out] at d25; have x2 := BoxD.f2 (K9.out.get 3 _ _ _ rfl); rw [g2.out] at x2; have x3 := BoxD.f3 (K9.out.get 3 _ _ _ rfl); rw [g3.out] at x3; have x4 := BoxD.f4 (K9.out.get 3 _ _ _ rfl); rw [g4.out] at x4; refine stopAt ?_)
    | ((with_reducible refine at_loadC w.heap.size c ?_ (.tmp 3) ?_ ?_ ?_ ?_); exact K6.out.get 0 _ _ _ rfl; rfl; rfl; rfl)
    | ((with_reducible refine at_loadP (w.heap.size + 1) p ?_ (.tmp 4) ?_ ?_ ?_ ?_); exact K6.out.get 1 _ _ _ rfl; rfl; rfl; rfl)
    | ((with_reducible refine at_loadC w.heap.size c ?_ (.tmp 3) ?_ ?_ ?_ ?_); exact K2.out.get 0 _ _ _ rfl; rfl; rfl; rfl))
  refine Stop.go ?_
  clear K2 K4 K5 K6 K7 K8 hw6 hw9 hb4 hb7
  go_wp2_with (first
    | ((with_reducible refine gen_world _ (Fm w [(w.heap.size, cpC c, 26), (w.heap.size + 1, pnC p, 30), (w.heap.size + 2, pnC o, 30), (v4.heap.size, dvC D, 37), (v7.heap.size, cpC N, 26), (y9.heap.size, pnC zeroP, 30)]) ?_ ?_); exact K9.out.new _ _; intro b0 bK0)
    | ((with_reducible refine at_storeP y9.heap.size zeroP p ?_ (.tmp 16) (.tmp 112) ?_ ?_ ?_ ?_ ?_); exact bK0.out.get 5 _ _ _ rfl; rfl; rfl; rfl; rfl; intro b1 bhw; have bK1 : Hid (Fm w [(w.heap.size, cpC c, 26), (w.heap.size + 1, pnC p, 30), (w.heap.size + 2, pnC o, 30), (v4.heap.size, dvC D, 37), (v7.heap.size, cpC N, 26), (y9.heap.size, pnC p, 30)] b1) := bK0.out.put 5 _ _ _ _ rfl bhw.out; skip)
    | ((with_reducible refine at_loadE (w.heap.size + 2) o ?_ (.tmp 113) ?_ ?_ ?_ ?_); exact bK1.out.get 2 _ _ _ rfl; rfl; rfl; rfl)
    | ((with_reducible refine at_storeE (V := w) (l := [(w.heap.size, cpC c, 26), (w.heap.size + 1, pnC p, 30), (w.heap.size + 2, pnC o, 30), (v4.heap.size, dvC D, 37), (v7.heap.size, cpC N, 26), (y9.heap.size, pnC p, 30)]) 5 y9.heap.size p o ?_ ?_ (.tmp 115) (.tmp 114) ?_ ?_ ?_ ?_ ?_); exact bK1.out; rfl; rfl; rfl; rfl; rfl; intro by1 bK; replace bK : Hid (Fm w [(w.heap.size, cpC c, 26), (w.heap.size + 1, pnC p, 30), (w.heap.size + 2, pnC o, 30), (v4.heap.size, dvC D, 37), (v7.heap.size, cpC N, 26), (y9.heap.size, pnC { p with EF := o.EF }, 30)] by1) := bK)
    | ((with_reducible refine at_loadP (w.heap.size + 1) p ?_ (.tmp 4) ?_ ?_ ?_ ?_); exact K9.out.get 1 _ _ _ rfl; rfl; rfl; rfl))
  refine wp_region_held_drew (S := Fm w [(w.heap.size, cpC c, 26), (w.heap.size + 1, pnC p, 30), (w.heap.size + 2, pnC o, 30), (v4.heap.size, dvC D, 37), (v7.heap.size, cpC N, 26), (y9.heap.size, pnC { p with EF := o.EF }, 30)]) (by kernel_rfl) (bK.out.below (below_drew (Below.refl _ _))) (fun hH => ?_)
  generalize by1.drew = z0 at hH ⊢
  refine wpAnyH_take (i := 0) (v := .agg (cpC c)) rfl (by kernel_rfl) (by kernel_rfl) (by kernel_rfl) (fun _ _ _ h => h) (yieldsC w.heap.size c (fun _ h => h.get 0 _ _ _ rfl) _ rfl rfl rfl) hH ?_
  try simp only [Act.put, List.setIfInBounds_toArray]
  refine wpAnyH_take (i := 1) (v := .agg (pnC { p with EF := o.EF })) rfl (by kernel_rfl) (by kernel_rfl) (by kernel_rfl) (fun _ _ _ h => h) (yieldsP y9.heap.size { p with EF := o.EF } (fun _ h => h.get 5 _ _ _ rfl) _ rfl rfl rfl) hH ?_
  try simp only [Act.put]
  refine wpAnyH_take (i := 3) (v := .agg (cpC N)) rfl (by kernel_rfl) (by kernel_rfl) (by kernel_rfl) (fun _ _ _ h => h) (yieldsC v7.heap.size N (fun _ h => h.get 4 _ _ _ rfl) _ rfl rfl rfl) hH ?_
  try simp only [Act.put]
  refine wpAnyH_ready (rs := [2]) (by kernel_rfl) (by simp) (AllReadyH.cons rfl (fun K hK => ?_) AllReadyH.nil)
  rw [if_pos (by rfl)]
  go_wp2_with (go_at_call 10; refine (hS2 _ (tb'.out.below hH.low)).mono ?_; rintro e by1c ⟨rfl, hbc⟩)
  refine hK.out _ _ (hH.below hbc) (fun hH => ?_)
  clear hK K hbc
  try simp only [Act.put, List.setIfInBounds_toArray, List.set_cons_zero, List.set_cons_succ]
  refine wpAnyH_take (i := 4) (v := .bool false) rfl (by kernel_rfl) (by kernel_rfl) (by kernel_rfl) (fun _ _ _ h => h) (yields_neC _ N e2.out _ _ _ rfl rfl rfl rfl) hH ?_
  try simp only [Act.put, List.setIfInBounds_toArray]
  refine wpAnyH_done (by kernel_rfl) ?_ _
  have K11 : Hid (Fm w [(w.heap.size, cpC c, 26), (w.heap.size + 1, pnC p, 30), (w.heap.size + 2, pnC o, 30), (v4.heap.size, dvC D, 37), (v7.heap.size, cpC N, 26), (y9.heap.size, pnC { p with EF := o.EF }, 30)] by1c) := hH
  clear hH bK
  clear bK0 bK1 bhw K9
  have dM := BoxP.fMode (K11.out.get 1 _ _ _ rfl)
  rw [hmo.out] at dM
  have d23 := BoxC.fOp (K11.out.get 0 _ _ _ rfl)
  rw [hx.out] at d23
  have d25 := BoxC.fPh (K11.out.get 0 _ _ _ rfl)
  rw [hph.out] at d25
  go_simp
  go_wp2
  go_ret
  exact ⟨by first | rfl | simp, K11.out.low⟩

theorem deaf_p2Bt (w : World) (c : Cp) (hc : c.wf) (p : Pn) (hp : p.wf) (o : Pn) (ho : o.wf) (tb : Tabs w) (hch : checkB c = true) (N : Cp) (hN : stepM c p = N) (D : Dv) (hDe : driveM c p.Mode = D) (hm : p.Mode = 0) (h1 : c.Ph = 2) (k1 : 52 ≤ c.Op) (k2 : c.Op ≤ 63) (k3 : 4 ≤ c.Op % 8) (g2 : D.Rd = true) : Calls Tryd.prog 4 #[.agg (cpC c), .agg (pnC p), .agg (pnC o)] w fun e w' => e = .returned (.bool true) ∧ Below w.heap.size w w' := by
  have hA := fun v t => lawake v t
  have hM := fun v => lmay v c hc
  have tb' : Hid (Tabs w) := tb
  have hF : Hid (Fm w [(w.heap.size, cpC c, 26), (w.heap.size + 1, pnC p, 30), (w.heap.size + 2, pnC o, 30)] (((w.alloc (.cells (cpC c) 26)).alloc (.cells (pnC p) 30)).alloc (.cells (pnC o) 30))) := Fm.three w c p o
  rw [hch] at hM
  have hS := fun v t => ystep v c hc p hp t
  rw [hN] at hS
  have hD := fun v t => ydrive v c hc t p.Mode hp.Mode
  rw [hDe] at hD
  have zz := zeroVC
  have zd := zeroVD
  have zp := zeroVP
  have hmo : (p.Mode : Int) = 0 := by omega
  obtain ⟨x, hx⟩ : ∃ x : Int, (c.Op : Int) = x := ⟨_, rfl⟩
  have hph : (c.Ph : Int) = 2 := by omega
  have u52 : decide ((52 : Int) ≤ x) = true := by simp; omega
  have w63 : decide (x ≤ (63 : Int)) = true := by simp; omega
  have u192 : decide ((192 : Int) ≤ x) = false := by simp; omega
  obtain ⟨z, hz⟩ : ∃ z, c.Op % 8 = z := ⟨_, rfl⟩
  have ba : bits .and .u8 x 7 = (z : Int) := by rw [← hx, and7 c.Op hc.Op, hz]
  have uz : decide ((4 : Int) ≤ (z : Int)) = true := by simp; omega
  clear hz
  rw [hmo] at hD
  replace hmo : Hid _ := hmo
  replace hph : Hid _ := hph
  replace hx : Hid _ := hx
  replace g2 : Hid _ := g2
  clear hc hp ho tb hch hN hDe hm h1 k1 k2 k3
  go_enter Tryd.func4, Tryd.ntmps4
  go_wp2_with (first
    | (refine gen_world (((w.alloc (.cells (cpC c) 26)).alloc (.cells (pnC p) 30)).alloc (.cells (pnC o) 30)) (Fm w [(w.heap.size, cpC c, 26), (w.heap.size + 1, pnC p, 30), (w.heap.size + 2, pnC o, 30)]) (hF.out) ?_; intro y K0)
    | (go_at_call 12; refine (hA _ (tb'.out.below K0.out.low)).mono ?_; rintro e v1 ⟨rfl, hb1⟩; have K1 : Hid _ := K0.out.below hb1)
    | (refine at_loadC w.heap.size c (K1.out.get 0 _ _ _ rfl) _ rfl rfl rfl ?_)
    | (go_at_call 8; refine (hM _).mono ?_; rintro e v2 ⟨rfl, hb2⟩; have K2 : Hid _ := K1.out.below hb2; have dM := BoxP.fMode (K2.out.get 1 _ _ _ rfl); rw [hmo.out] at dM; refine stopAt ?_))
  refine Stop.go ?_
  clear K0 K1 hb1 hb2 hF
  go_wp2_with (first
    | (go_at_call 11; refine (hD _ (tb'.out.below K2.out.low)).mono ?_; rintro e v4 ⟨rfl, hb4⟩; have K4 : Hid _ := K2.out.below hb4)
    | ((with_reducible refine gen_world _ (Fm w [(w.heap.size, cpC c, 26), (w.heap.size + 1, pnC p, 30), (w.heap.size + 2, pnC o, 30), (v4.heap.size, dvC zeroD, 37)]) ?_ ?_); exact K4.out.new _ _; intro y5 K5)
    | ((with_reducible refine at_storeD v4.heap.size zeroD D ?_ (.tmp 9) (.tmp 37) ?_ ?_ ?_ ?_ ?_); exact K5.out.get 3 _ _ _ rfl; rfl; rfl; rfl; rfl; intro y6 hw6; have K6 : Hid (Fm w [(w.heap.size, cpC c, 26), (w.heap.size + 1, pnC p, 30), (w.heap.size + 2, pnC o, 30), (v4.heap.size, dvC D, 37)] y6) := K5.out.put 3 _ _ _ _ rfl hw6.out)
    | (go_at_call 10; refine (hS _ (tb'.out.below K6.out.low)).mono ?_; rintro e v7 ⟨rfl, hb7⟩; have K7 : Hid _ := K6.out.below hb7)
    | ((with_reducible refine gen_world _ (Fm w [(w.heap.size, cpC c, 26), (w.heap.size + 1, pnC p, 30), (w.heap.size + 2, pnC o, 30), (v4.heap.size, dvC D, 37), (v7.heap.size, cpC zeroC, 26)]) ?_ ?_); exact K7.out.new _ _; intro y8 K8)
    | ((with_reducible refine at_storeC v7.heap.size zeroC N ?_ (.tmp 10) (.tmp 40) ?_ ?_ ?_ ?_ ?_); exact K8.out.get 4 _ _ _ rfl; rfl; rfl; rfl; rfl; intro y9 hw9; have K9 : Hid (Fm w [(w.heap.size, cpC c, 26), (w.heap.size + 1, pnC p, 30), (w.heap.size + 2, pnC o, 30), (v4.heap.size, dvC D, 37), (v7.heap.size, cpC N, 26)] y9) := K8.out.put 4 _ _ _ _ rfl hw9.out; have dM := BoxP.fMode (K9.out.get 1 _ _ _ rfl); rw [hmo.out] at dM; have d23 := BoxC.fOp (K9.out.get 0 _ _ _ rfl); rw [hx.out] at d23; have d25 := BoxC.fPh (K9.out.get 0 _ _ _ rfl); rw [hph.out] at d25; have x2 := BoxD.f2 (K9.out.get 3 _ _ _ rfl); rw [g2.out] at x2; have x3 := BoxD.f3 (K9.out.get 3 _ _ _ rfl); have x4 := BoxD.f4 (K9.out.get 3 _ _ _ rfl); refine stopAt ?_)
    | ((with_reducible refine at_loadC w.heap.size c ?_ (.tmp 3) ?_ ?_ ?_ ?_); exact K6.out.get 0 _ _ _ rfl; rfl; rfl; rfl)
    | ((with_reducible refine at_loadP (w.heap.size + 1) p ?_ (.tmp 4) ?_ ?_ ?_ ?_); exact K6.out.get 1 _ _ _ rfl; rfl; rfl; rfl)
    | ((with_reducible refine at_loadC w.heap.size c ?_ (.tmp 3) ?_ ?_ ?_ ?_); exact K2.out.get 0 _ _ _ rfl; rfl; rfl; rfl))
  refine Stop.go ?_
  clear K2 K4 K5 K6 K7 K8 hw6 hw9 hb4 hb7
  go_wp2
  go_ret
  exact ⟨by first | rfl | simp, K9.out.low⟩

theorem deaf_p2Gt (w : World) (c : Cp) (hc : c.wf) (p : Pn) (hp : p.wf) (o : Pn) (ho : o.wf) (tb : Tabs w) (hch : checkB c = true) (N : Cp) (hN : stepM c p = N) (D : Dv) (hDe : driveM c p.Mode = D) (hm : p.Mode = 0) (h1 : c.Ph = 2) (k1 : 52 ≤ c.Op) (k2 : c.Op ≤ 63) (k3 : c.Op % 8 < 4) (g2 : D.Rd = true) (e2 : cpC (stepM c { p with EF := o.EF }) = cpC N) : Calls Tryd.prog 4 #[.agg (cpC c), .agg (pnC p), .agg (pnC o)] w fun e w' => e = .returned (.bool true) ∧ Below w.heap.size w w' := by
  have hA := fun v t => lawake v t
  have hM := fun v => lmay v c hc
  have tb' : Hid (Tabs w) := tb
  have hF : Hid (Fm w [(w.heap.size, cpC c, 26), (w.heap.size + 1, pnC p, 30), (w.heap.size + 2, pnC o, 30)] (((w.alloc (.cells (cpC c) 26)).alloc (.cells (pnC p) 30)).alloc (.cells (pnC o) 30))) := Fm.three w c p o
  rw [hch] at hM
  have hS := fun v t => ystep v c hc p hp t
  rw [hN] at hS
  have hD := fun v t => ydrive v c hc t p.Mode hp.Mode
  rw [hDe] at hD
  have hS2 := fun v t => ystep v c hc { p with EF := o.EF } ⟨hp.Mode, hp.Data⟩ t
  have zz := zeroVC
  have zd := zeroVD
  have zp := zeroVP
  have hmo : (p.Mode : Int) = 0 := by omega
  obtain ⟨x, hx⟩ : ∃ x : Int, (c.Op : Int) = x := ⟨_, rfl⟩
  have hph : (c.Ph : Int) = 2 := by omega
  have u52 : decide ((52 : Int) ≤ x) = true := by simp; omega
  have w63 : decide (x ≤ (63 : Int)) = true := by simp; omega
  have u192 : decide ((192 : Int) ≤ x) = false := by simp; omega
  obtain ⟨z, hz⟩ : ∃ z, c.Op % 8 = z := ⟨_, rfl⟩
  have ba : bits .and .u8 x 7 = (z : Int) := by rw [← hx, and7 c.Op hc.Op, hz]
  have uz : decide ((4 : Int) ≤ (z : Int)) = false := by simp; omega
  clear hz
  rw [hmo] at hD
  replace hmo : Hid _ := hmo
  replace hph : Hid _ := hph
  replace hx : Hid _ := hx
  replace g2 : Hid _ := g2
  replace e2 : Hid _ := e2
  clear hc hp ho tb hch hN hDe hm h1 k1 k2 k3
  go_enter Tryd.func4, Tryd.ntmps4
  go_wp2_with (first
    | (refine gen_world (((w.alloc (.cells (cpC c) 26)).alloc (.cells (pnC p) 30)).alloc (.cells (pnC o) 30)) (Fm w [(w.heap.size, cpC c, 26), (w.heap.size + 1, pnC p, 30), (w.heap.size + 2, pnC o, 30)]) (hF.out) ?_; intro y K0)
    | (go_at_call 12; refine (hA _ (tb'.out.below K0.out.low)).mono ?_; rintro e v1 ⟨rfl, hb1⟩; have K1 : Hid _ := K0.out.below hb1)
    | (refine at_loadC w.heap.size c (K1.out.get 0 _ _ _ rfl) _ rfl rfl rfl ?_)
    | (go_at_call 8; refine (hM _).mono ?_; rintro e v2 ⟨rfl, hb2⟩; have K2 : Hid _ := K1.out.below hb2; have dM := BoxP.fMode (K2.out.get 1 _ _ _ rfl); rw [hmo.out] at dM; refine stopAt ?_))
  refine Stop.go ?_
  clear K0 K1 hb1 hb2 hF
  go_wp2_with (first
    | (go_at_call 11; refine (hD _ (tb'.out.below K2.out.low)).mono ?_; rintro e v4 ⟨rfl, hb4⟩; have K4 : Hid _ := K2.out.below hb4)
    | ((with_reducible refine gen_world _ (Fm w [(w.heap.size, cpC c, 26), (w.heap.size + 1, pnC p, 30), (w.heap.size + 2, pnC o, 30), (v4.heap.size, dvC zeroD, 37)]) ?_ ?_); exact K4.out.new _ _; intro y5 K5)
    | ((with_reducible refine at_storeD v4.heap.size zeroD D ?_ (.tmp 9) (.tmp 37) ?_ ?_ ?_ ?_ ?_); exact K5.out.get 3 _ _ _ rfl; rfl; rfl; rfl; rfl; intro y6 hw6; have K6 : Hid (Fm w [(w.heap.size, cpC c, 26), (w.heap.size + 1, pnC p, 30), (w.heap.size + 2, pnC o, 30), (v4.heap.size, dvC D, 37)] y6) := K5.out.put 3 _ _ _ _ rfl hw6.out)
    | (go_at_call 10; refine (hS _ (tb'.out.below K6.out.low)).mono ?_; rintro e v7 ⟨rfl, hb7⟩; have K7 : Hid _ := K6.out.below hb7)
    | ((with_reducible refine gen_world _ (Fm w [(w.heap.size, cpC c, 26), (w.heap.size + 1, pnC p, 30), (w.heap.size + 2, pnC o, 30), (v4.heap.size, dvC D, 37), (v7.heap.size, cpC zeroC, 26)]) ?_ ?_); exact K7.out.new _ _; intro y8 K8)
    | ((with_reducible refine at_storeC v7.heap.size zeroC N ?_ (.tmp 10) (.tmp 40) ?_ ?_ ?_ ?_ ?_); exact K8.out.get 4 _ _ _ rfl; rfl; rfl; rfl; rfl; intro y9 hw9; have K9 : Hid (Fm w [(w.heap.size, cpC c, 26), (w.heap.size + 1, pnC p, 30), (w.heap.size + 2, pnC o, 30), (v4.heap.size, dvC D, 37), (v7.heap.size, cpC N, 26)] y9) := K8.out.put 4 _ _ _ _ rfl hw9.out; have dM := BoxP.fMode (K9.out.get 1 _ _ _ rfl); rw [hmo.out] at dM; have d23 := BoxC.fOp (K9.out.get 0 _ _ _ rfl); rw [hx.out] at d23; have d25 := BoxC.fPh (K9.out.get 0 _ _ _ rfl); rw [hph.out] at d25; have x2 := BoxD.f2 (K9.out.get 3 _ _ _ rfl); rw [g2.out] at x2; have x3 := BoxD.f3 (K9.out.get 3 _ _ _ rfl); have x4 := BoxD.f4 (K9.out.get 3 _ _ _ rfl); refine stopAt ?_)
    | ((with_reducible refine at_loadC w.heap.size c ?_ (.tmp 3) ?_ ?_ ?_ ?_); exact K6.out.get 0 _ _ _ rfl; rfl; rfl; rfl)
    | ((with_reducible refine at_loadP (w.heap.size + 1) p ?_ (.tmp 4) ?_ ?_ ?_ ?_); exact K6.out.get 1 _ _ _ rfl; rfl; rfl; rfl)
    | ((with_reducible refine at_loadC w.heap.size c ?_ (.tmp 3) ?_ ?_ ?_ ?_); exact K2.out.get 0 _ _ _ rfl; rfl; rfl; rfl))
  refine Stop.go ?_
  clear K2 K4 K5 K6 K7 K8 hw6 hw9 hb4 hb7
  go_wp2_with (first
    | ((with_reducible refine gen_world _ (Fm w [(w.heap.size, cpC c, 26), (w.heap.size + 1, pnC p, 30), (w.heap.size + 2, pnC o, 30), (v4.heap.size, dvC D, 37), (v7.heap.size, cpC N, 26), (y9.heap.size, pnC zeroP, 30)]) ?_ ?_); exact K9.out.new _ _; intro b0 bK0)
    | ((with_reducible refine at_storeP y9.heap.size zeroP p ?_ (.tmp 16) (.tmp 112) ?_ ?_ ?_ ?_ ?_); exact bK0.out.get 5 _ _ _ rfl; rfl; rfl; rfl; rfl; intro b1 bhw; have bK1 : Hid (Fm w [(w.heap.size, cpC c, 26), (w.heap.size + 1, pnC p, 30), (w.heap.size + 2, pnC o, 30), (v4.heap.size, dvC D, 37), (v7.heap.size, cpC N, 26), (y9.heap.size, pnC p, 30)] b1) := bK0.out.put 5 _ _ _ _ rfl bhw.out; skip)
    | ((with_reducible refine at_loadE (w.heap.size + 2) o ?_ (.tmp 113) ?_ ?_ ?_ ?_); exact bK1.out.get 2 _ _ _ rfl; rfl; rfl; rfl)
    | ((with_reducible refine at_storeE (V := w) (l := [(w.heap.size, cpC c, 26), (w.heap.size + 1, pnC p, 30), (w.heap.size + 2, pnC o, 30), (v4.heap.size, dvC D, 37), (v7.heap.size, cpC N, 26), (y9.heap.size, pnC p, 30)]) 5 y9.heap.size p o ?_ ?_ (.tmp 115) (.tmp 114) ?_ ?_ ?_ ?_ ?_); exact bK1.out; rfl; rfl; rfl; rfl; rfl; intro by1 bK; replace bK : Hid (Fm w [(w.heap.size, cpC c, 26), (w.heap.size + 1, pnC p, 30), (w.heap.size + 2, pnC o, 30), (v4.heap.size, dvC D, 37), (v7.heap.size, cpC N, 26), (y9.heap.size, pnC { p with EF := o.EF }, 30)] by1) := bK)
    | ((with_reducible refine at_loadP (w.heap.size + 1) p ?_ (.tmp 4) ?_ ?_ ?_ ?_); exact K9.out.get 1 _ _ _ rfl; rfl; rfl; rfl))
  refine wp_region_held_drew (S := Fm w [(w.heap.size, cpC c, 26), (w.heap.size + 1, pnC p, 30), (w.heap.size + 2, pnC o, 30), (v4.heap.size, dvC D, 37), (v7.heap.size, cpC N, 26), (y9.heap.size, pnC { p with EF := o.EF }, 30)]) (by kernel_rfl) (bK.out.below (below_drew (Below.refl _ _))) (fun hH => ?_)
  generalize by1.drew = z0 at hH ⊢
  refine wpAnyH_take (i := 0) (v := .agg (cpC c)) rfl (by kernel_rfl) (by kernel_rfl) (by kernel_rfl) (fun _ _ _ h => h) (yieldsC w.heap.size c (fun _ h => h.get 0 _ _ _ rfl) _ rfl rfl rfl) hH ?_
  try simp only [Act.put, List.setIfInBounds_toArray]
  refine wpAnyH_take (i := 1) (v := .agg (pnC { p with EF := o.EF })) rfl (by kernel_rfl) (by kernel_rfl) (by kernel_rfl) (fun _ _ _ h => h) (yieldsP y9.heap.size { p with EF := o.EF } (fun _ h => h.get 5 _ _ _ rfl) _ rfl rfl rfl) hH ?_
  try simp only [Act.put]
  refine wpAnyH_take (i := 3) (v := .agg (cpC N)) rfl (by kernel_rfl) (by kernel_rfl) (by kernel_rfl) (fun _ _ _ h => h) (yieldsC v7.heap.size N (fun _ h => h.get 4 _ _ _ rfl) _ rfl rfl rfl) hH ?_
  try simp only [Act.put]
  refine wpAnyH_ready (rs := [2]) (by kernel_rfl) (by simp) (AllReadyH.cons rfl (fun K hK => ?_) AllReadyH.nil)
  rw [if_pos (by rfl)]
  go_wp2_with (go_at_call 10; refine (hS2 _ (tb'.out.below hH.low)).mono ?_; rintro e by1c ⟨rfl, hbc⟩)
  refine hK.out _ _ (hH.below hbc) (fun hH => ?_)
  clear hK K hbc
  try simp only [Act.put, List.setIfInBounds_toArray, List.set_cons_zero, List.set_cons_succ]
  refine wpAnyH_take (i := 4) (v := .bool false) rfl (by kernel_rfl) (by kernel_rfl) (by kernel_rfl) (fun _ _ _ h => h) (yields_neC _ N e2.out _ _ _ rfl rfl rfl rfl) hH ?_
  try simp only [Act.put, List.setIfInBounds_toArray]
  refine wpAnyH_done (by kernel_rfl) ?_ _
  have K11 : Hid (Fm w [(w.heap.size, cpC c, 26), (w.heap.size + 1, pnC p, 30), (w.heap.size + 2, pnC o, 30), (v4.heap.size, dvC D, 37), (v7.heap.size, cpC N, 26), (y9.heap.size, pnC { p with EF := o.EF }, 30)] by1c) := hH
  clear hH bK
  clear bK0 bK1 bhw K9
  have dM := BoxP.fMode (K11.out.get 1 _ _ _ rfl)
  rw [hmo.out] at dM
  have d23 := BoxC.fOp (K11.out.get 0 _ _ _ rfl)
  rw [hx.out] at d23
  have d25 := BoxC.fPh (K11.out.get 0 _ _ _ rfl)
  rw [hph.out] at d25
  go_simp
  go_wp2
  go_ret
  exact ⟨by first | rfl | simp, K11.out.low⟩

end Go.Proofs.YtbeeefekndcgnaaDoor
