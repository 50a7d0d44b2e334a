/- CPUMay, whole -/
import Derived.Test.YtbeeefekndcgnaaDoorCa
namespace Go.Proofs.YtbeeefekndcgnaaDoor
open Go Go.RowKit
set_option linter.unusedVariables false
set_option maxHeartbeats 4000000
set_option maxRecDepth 20000

theorem may_all (w : World) (c : Cp) (hc : c.wf) (p : Pn) (hp : p.wf) (q : Pn) (hq : q.wf) (tb : Tabs w) (hch : checkB c = true) (h3 : p.Mode ≤ 3) : Calls Tryd.prog 3 #[.agg (cpC c), .agg (pnC p), .agg (pnC q)] w fun e w' => e = .returned (.bool true) ∧ Below w.heap.size w w' := by
  have hM := fun v => lmay v c hc
  have hkS := fun v t => ycheck v startM startM_wf t
  rw [check_start] at hkS
  have hkc := fun v t => ycheck v c hc t
  have hSt := fun v => ystart v
  have s25 : Hid ((cpC startM)[25]? = some (.int .u8 5)) := (rfl : (cpC startM)[25]? = some (.int .u8 5))
  obtain ⟨S, hSe⟩ : ∃ S, startM = S := ⟨_, rfl⟩
  rw [hSe] at hkS hSt s25
  have tb' : Hid (Tabs w) := tb
  have hF : Hid (Fm w [(w.heap.size, cpC c, 26), (w.heap.size + 1, pnC p, 30), (w.heap.size + 2, pnC q, 30)] (((w.alloc (.cells (cpC c) 26)).alloc (.cells (pnC p) 30)).alloc (.cells (pnC q) 30))) := Fm.three w c p q
  have zz := zeroVC
  have zd := zeroVD
  rw [hch] at hM
  have ec : checkM c = 0 := by unfold checkM; rw [hch]; rfl
  rw [ec] at hkc
  have hmay := (checkB_iff c).1 hch
  have hS := fun v t => ystep v c hc p hp t
  have wN := stepM_wf hc hp
  have kN : checkM (stepM c p) = 0 := by unfold checkM; rw [(checkB_iff _).2 (stepM_may hc hp hmay h3)]; rfl
  have hkN := fun v t => ycheck v (stepM c p) wN t
  rw [kN] at hkN
  obtain ⟨N, hN⟩ : ∃ N, stepM c p = N := ⟨_, rfl⟩
  rw [hN] at hS hkN
  have hD1 := fun v t => ydrive v c hc t 1 (by decide)
  have hD0 := fun v t => ydrive v c hc t 0 (by decide)
  rw [drive_pause hch] at hD1
  have hbD : Hid (Tryd.prog.built 37 [(0, .int .u8 (driveM c 0).Code), (1, .int .u16 (driveM c 0).Addr)] = some (dvC ⟨(driveM c 0).Code, (driveM c 0).Addr, false, false, false, 0, 0, false⟩)) := (by kernel_rfl : Tryd.prog.built 37 [(0, .int .u8 (driveM c 0).Code), (1, .int .u16 (driveM c 0).Addr)] = some (dvC ⟨(driveM c 0).Code, (driveM c 0).Addr, false, false, false, 0, 0, false⟩))
  obtain ⟨D1, hD1e⟩ : ∃ D, (⟨(driveM c 0).Code, (driveM c 0).Addr, false, false, false, 0, 0, false⟩ : Dv) = D := ⟨_, rfl⟩
  rw [hD1e] at hD1 hbD
  obtain ⟨D0, hD0e⟩ : ∃ D, driveM c 0 = D := ⟨_, rfl⟩
  rw [hD0e] at hD0 hbD
  have hSp := fun v t => ystep v c hc { p with Mode := 1 } ⟨(by decide : 1 < 256), hp.Data⟩ t
  rw [step_pause hch p] at hSp
  have hSr := fun v t => ystep v c hc { q with Mode := 2 } ⟨(by decide : 2 < 256), hq.Data⟩ t
  rw [step_reset hch q] at hSr
  have wR := (resetM_may hc hmay).1.wf
  have kR := (checkB_iff _).2 (resetM_may hc hmay).2
  have hSb := fun v t => ystep v (resetM c) wR (firstP q.Data) ⟨(by decide : 0 < 256), hq.Data⟩ t
  rw [step_first kR] at hSb
  have wB : (firstC c).wf := by have := stepM_wf wR (p := firstP q.Data) ⟨(by decide : 0 < 256), hq.Data⟩; rw [step_first kR] at this; exact this
  have hDf := fun v t => ydrive v (firstC c) wB t 0 (by decide)
  rw [drive_first c] at hDf
  have hbF : Hid (Tryd.prog.built 37 [(0, .int .u8 0), (2, .bool true), (7, .bool true)] = some (dvC ⟨0, 0, true, false, false, 0, 0, true⟩)) := (by kernel_rfl : Tryd.prog.built 37 [(0, .int .u8 0), (2, .bool true), (7, .bool true)] = some (dvC ⟨0, 0, true, false, false, 0, 0, true⟩))
  have hbP : Hid (Tryd.prog.built 30 [(0, .int .u8 0), (1, .int .u8 q.Data), (5, .bool true)] = some (pnC (firstP q.Data))) := (by kernel_rfl : Tryd.prog.built 30 [(0, .int .u8 0), (1, .int .u8 q.Data), (5, .bool true)] = some (pnC (firstP q.Data)))
  obtain ⟨F, hFe⟩ : ∃ D, (⟨0, 0, true, false, false, 0, 0, true⟩ : Dv) = D := ⟨_, rfl⟩
  rw [hFe] at hDf hbF
  have hRs : rL (resetM c) = rL c := rfl
  have rf25 : Hid ((cpC (resetM c))[25]? = some (.int .u8 5)) := (rfl : (cpC (resetM c))[25]? = some (.int .u8 5))
  have rf19 : Hid ((cpC (resetM c))[19]? = some (.int .u8 (c.X : Int))) := (rfl : (cpC (resetM c))[19]? = some (.int .u8 (c.X : Int)))
  have rf18 : Hid ((cpC (resetM c))[18]? = some (.int .u8 (c.P : Int))) := (rfl : (cpC (resetM c))[18]? = some (.int .u8 (c.P : Int)))
  have bf25 : Hid ((cpC (firstC c))[25]? = some (.int .u8 1)) := (rfl : (cpC (firstC c))[25]? = some (.int .u8 1))
  have bf0 : Hid ((cpC (firstC c))[0]? = some (.int .u16 0)) := (rfl : (cpC (firstC c))[0]? = some (.int .u16 0))
  have bf18 : Hid ((cpC (firstC c))[18]? = some (.int .u8 0)) := (rfl : (cpC (firstC c))[18]? = some (.int .u8 0))
  have bf19 : Hid ((cpC (firstC c))[19]? = some (.int .u8 0)) := (rfl : (cpC (firstC c))[19]? = some (.int .u8 0))
  have bf21 : Hid ((cpC (firstC c))[21]? = some (.bool true)) := (rfl : (cpC (firstC c))[21]? = some (.bool true))
  have bf22 : Hid ((cpC (firstC c))[22]? = some (.bool false)) := (rfl : (cpC (firstC c))[22]? = some (.bool false))
  have bf16 : Hid ((cpC (firstC c))[16]? = some (.int .u8 c.D)) := (rfl : (cpC (firstC c))[16]? = some (.int .u8 c.D))
  have bf17 : Hid ((cpC (firstC c))[17]? = some (.bool c.DF)) := (rfl : (cpC (firstC c))[17]? = some (.bool c.DF))
  have bf20 : Hid ((cpC (firstC c))[20]? = some (.int .u8 c.T)) := (rfl : (cpC (firstC c))[20]? = some (.int .u8 c.T))
  have hBR : Hid (∀ k, k ≠ 0 → k < 16 → ∀ (b : Nat) x, BoxC x b (firstC c) → x.cell? ⟨b, k, none⟩ = some (.int .u16 (c.R k))) := fun k h0 h b x hx => by have := hx.r k h; rw [first_R c k h0] at this; exact this
  obtain ⟨R, hRe⟩ : ∃ R, resetM c = R := ⟨_, rfl⟩
  rw [hRe] at hSr hSb hRs rf25 rf19 rf18
  obtain ⟨B, hBe⟩ : ∃ B, firstC c = B := ⟨_, rfl⟩
  rw [hBe] at hSb hDf hBR bf25 bf0 bf18 bf19 bf21 bf22 bf16 bf17 bf20
  obtain ⟨m, hm⟩ : ∃ m : Int, (p.Mode : Int) = m := ⟨_, rfl⟩
  have h3' : decide ((3 : Int) < m) = false := by simp; omega
  obtain ⟨fp, hfp⟩ : ∃ fp, firstP q.Data = fp := ⟨_, rfl⟩
  rw [hfp] at hSb hbP
  replace hm : Hid _ := hm
  replace hRs : Hid _ := hRs
  clear hc hp hq tb hch ec hSe h3 hmay wN kN hN hD1e hD0e wR kR wB hFe hRe hBe hfp
  go_enter Tryd.func3, Tryd.ntmps3
  go_wp2_with (first
    | ((with_reducible refine gen_world _ (Fm w [(w.heap.size, cpC c, 26), (w.heap.size + 1, pnC p, 30), (w.heap.size + 2, pnC q, 30)]) ?_ ?_); exact hF.out; intro y0 K0)
    | (go_at_call 7; refine (hSt _).mono ?_; rintro e v1 ⟨rfl, hb1⟩; have K1 : Hid _ := K0.out.below hb1)
    | ((with_reducible refine gen_world _ (Fm w [(w.heap.size, cpC c, 26), (w.heap.size + 1, pnC p, 30), (w.heap.size + 2, pnC q, 30), (v1.heap.size, cpC zeroC, 26)]) ?_ ?_); exact K1.out.new _ _; intro y2 K2)
    | ((with_reducible refine at_storeC v1.heap.size zeroC S ?_ (.tmp 7) (.tmp 16) ?_ ?_ ?_ ?_ ?_); exact K2.out.get 3 _ _ _ rfl; rfl; rfl; rfl; rfl; intro y3 hw3; have K3 : Hid (Fm w [(w.heap.size, cpC c, 26), (w.heap.size + 1, pnC p, 30), (w.heap.size + 2, pnC q, 30), (v1.heap.size, cpC S, 26)] y3) := K2.out.put 3 _ _ _ _ rfl hw3.out)
    | (go_at_call 8; refine (hM _).mono ?_; rintro e v4 ⟨rfl, hb4⟩; have K4 : Hid _ := K3.out.below hb4)
    | (go_at_call 9; refine (hkc _ (tb'.out.below K5.out.low)).mono ?_; rintro e v6 ⟨rfl, hb6⟩; have K6 : Hid _ := K5.out.below hb6; refine stopAt ?_)
    | (go_at_call 9; refine (hkS _ (tb'.out.below K4.out.low)).mono ?_; rintro e v5 ⟨rfl, hb5⟩; have K5 : Hid _ := K4.out.below hb5; have d25 := BoxC.f (K5.out.get 3 _ _ _ rfl) 25 _ s25.out)
    | ((with_reducible refine at_loadCg w.heap.size c ?_ (.tmp 3) ?_ ?_ ?_ ?_); rotate_left 2; rfl; rfl; rotate_left 1; exact K5.out.get 0 _ _ _ rfl; kernel_rfl)
    | ((with_reducible refine at_loadCg v1.heap.size S ?_ (.tmp 7) ?_ ?_ ?_ ?_); rotate_left 2; rfl; rfl; rotate_left 1; exact K4.out.get 3 _ _ _ rfl; kernel_rfl)
    | ((with_reducible refine at_loadCg w.heap.size c ?_ (.tmp 3) ?_ ?_ ?_ ?_); rotate_left 2; rfl; rfl; rotate_left 1; exact K3.out.get 0 _ _ _ rfl; kernel_rfl))
  refine Stop.go ?_
  clear K0 K1 K2 K3 K4 K5 hw3 hb1 hb4 hb5 hb6 hF d25
  go_wp2_with (first
    | (go_at_call 9; refine (hkN _ (tb'.out.below K9.out.low)).mono ?_; rintro e v10 ⟨rfl, hb10⟩; have K10 : Hid _ := K9.out.below hb10; have dM := BoxP.fMode (K10.out.get 1 _ _ _ rfl); have zM := frozen_heap (K10.out.get 1 _ _ _ rfl) 0; have K11 : Hid (Fm w [(w.heap.size, cpC c, 26), (w.heap.size + 1, pnC { p with Mode := 1 }, 30), (w.heap.size + 2, pnC q, 30), (v1.heap.size, cpC S, 26), (v7.heap.size, cpC N, 26)] (v10.setCell ⟨w.heap.size + 1, 0, none⟩ (.int .u8 1))) := K10.out.setCell 1 _ _ _ _ rfl 0 _ rfl)
    | ((with_reducible refine gen_world _ (Fm w [(w.heap.size, cpC c, 26), (w.heap.size + 1, pnC { p with Mode := 1 }, 30), (w.heap.size + 2, pnC q, 30), (v1.heap.size, cpC S, 26), (v7.heap.size, cpC N, 26)]) ?_ ?_); exact K11.out; intro y11 K11b)
    | (go_at_call 11; refine (hD0 _ (tb'.out.below K14.out.low)).mono ?_; rintro e v15 ⟨rfl, hb15⟩; have K15 : Hid _ := K14.out.below hb15)
    | (go_at_call 11; refine (hD1 _ (tb'.out.below K11b.out.low)).mono ?_; rintro e v12 ⟨rfl, hb12⟩; have K12 : Hid _ := K11b.out.below hb12)
    | ((with_reducible refine gen_world _ (Fm w [(w.heap.size, cpC c, 26), (w.heap.size + 1, pnC { p with Mode := 1 }, 30), (w.heap.size + 2, pnC q, 30), (v1.heap.size, cpC S, 26), (v7.heap.size, cpC N, 26), (v12.heap.size, dvC zeroD, 37)]) ?_ ?_); exact K12.out.new _ _; intro y13 K13)
    | ((with_reducible refine at_storeD v12.heap.size zeroD D1 ?_ (.tmp 10) (.tmp 71) ?_ ?_ ?_ ?_ ?_); exact K13.out.get 5 _ _ _ rfl; rfl; rfl; rfl; rfl; intro y14 hw14; have K14 : Hid (Fm w [(w.heap.size, cpC c, 26), (w.heap.size + 1, pnC { p with Mode := 1 }, 30), (w.heap.size + 2, pnC q, 30), (v1.heap.size, cpC S, 26), (v7.heap.size, cpC N, 26), (v12.heap.size, dvC D1, 37)] y14) := K13.out.put 5 _ _ _ _ rfl hw14.out)
    | ((with_reducible refine gen_world _ (Fm w [(w.heap.size, cpC c, 26), (w.heap.size + 1, pnC { p with Mode := 1 }, 30), (w.heap.size + 2, pnC q, 30), (v1.heap.size, cpC S, 26), (v7.heap.size, cpC N, 26), (v12.heap.size, dvC D1, 37), (v15.heap.size, dvC zeroD, 37)]) ?_ ?_); exact K15.out.new _ _; intro y16 K16)
    | ((with_reducible refine at_storeD v15.heap.size zeroD D0 ?_ (.tmp 11) (.tmp 73) ?_ ?_ ?_ ?_ ?_); exact K16.out.get 6 _ _ _ rfl; rfl; rfl; rfl; rfl; intro y17 hw17; have K17 : Hid (Fm w [(w.heap.size, cpC c, 26), (w.heap.size + 1, pnC { p with Mode := 1 }, 30), (w.heap.size + 2, pnC q, 30), (v1.heap.size, cpC S, 26), (v7.heap.size, cpC N, 26), (v12.heap.size, dvC D1, 37), (v15.heap.size, dvC D0, 37)] y17) := K16.out.put 6 _ _ _ _ rfl hw17.out)
    | ((with_reducible refine at_loadCg w.heap.size c ?_ (.tmp 3) ?_ ?_ ?_ ?_); rotate_left 2; rfl; rfl; rotate_left 1; exact K14.out.get 0 _ _ _ rfl; kernel_rfl)
    | ((with_reducible refine at_loadCg w.heap.size c ?_ (.tmp 3) ?_ ?_ ?_ ?_); rotate_left 2; rfl; rfl; rotate_left 1; exact K11b.out.get 0 _ _ _ rfl; kernel_rfl)
    | ((with_reducible refine at_loadCg v7.heap.size N ?_ (.tmp 9) ?_ ?_ ?_ ?_); rotate_left 2; rfl; rfl; rotate_left 1; exact K9.out.get 4 _ _ _ rfl; kernel_rfl)
    | (go_at_call 10; refine (hS _ (tb'.out.below K6.out.low)).mono ?_; rintro e v7 ⟨rfl, hb7⟩; have K7 : Hid _ := K6.out.below hb7)
    | ((with_reducible refine gen_world _ (Fm w [(w.heap.size, cpC c, 26), (w.heap.size + 1, pnC p, 30), (w.heap.size + 2, pnC q, 30), (v1.heap.size, cpC S, 26), (v7.heap.size, cpC zeroC, 26)]) ?_ ?_); exact K7.out.new _ _; intro y8 K8)
    | ((with_reducible refine at_storeC v7.heap.size zeroC N ?_ (.tmp 9) (.tmp 51) ?_ ?_ ?_ ?_ ?_); exact K8.out.get 4 _ _ _ rfl; rfl; rfl; rfl; rfl; intro y9 hw9; have K9 : Hid (Fm w [(w.heap.size, cpC c, 26), (w.heap.size + 1, pnC p, 30), (w.heap.size + 2, pnC q, 30), (v1.heap.size, cpC S, 26), (v7.heap.size, cpC N, 26)] y9) := K8.out.put 4 _ _ _ _ rfl hw9.out; have dM := BoxP.fMode (K9.out.get 1 _ _ _ rfl); rw [hm.out] at dM)
    | ((with_reducible refine at_loadCg w.heap.size c ?_ (.tmp 3) ?_ ?_ ?_ ?_); rotate_left 2; rfl; rfl; rotate_left 1; exact K6.out.get 0 _ _ _ rfl; kernel_rfl)
    | ((with_reducible refine at_loadP (w.heap.size + 1) p ?_ (.tmp 4) ?_ ?_ ?_ ?_); exact K6.out.get 1 _ _ _ rfl; rfl; rfl; rfl))
  refine wp_region_held_drew (S := Fm w [(w.heap.size, cpC c, 26), (w.heap.size + 1, pnC { p with Mode := 1 }, 30), (w.heap.size + 2, pnC q, 30), (v1.heap.size, cpC S, 26), (v7.heap.size, cpC N, 26), (v12.heap.size, dvC D1, 37), (v15.heap.size, dvC D0, 37)]) (by kernel_rfl) (K17.out.below (below_drew (Below.refl _ _))) (fun hH => ?_)
  generalize y17.drew = z0 at hH ⊢
  clear K6 K7 K8 K9 K10 K11 K11b K12 K13 K14 K15 K16 hw9 hw14 hw17 hb7 hb10 hb12 hb15 dM zM
  refine wpAnyH_take (i := 0) (v := .agg (cpC c)) rfl (by kernel_rfl) (by kernel_rfl) (by kernel_rfl) (fun _ _ _ h => h) (yieldsC w.heap.size c (fun _ h => h.get 0 _ _ _ rfl) _ rfl rfl rfl) hH ?_
  try simp only [Act.put, List.setIfInBounds_toArray]
  refine wpAnyH_take (i := 1) (v := .agg (pnC { p with Mode := 1 })) rfl (by kernel_rfl) (by kernel_rfl) (by kernel_rfl) (fun _ _ _ h => h) (yieldsP (w.heap.size + 1) { p with Mode := 1 } (fun _ h => h.get 1 _ _ _ rfl) _ rfl rfl rfl) hH ?_
  try simp only [Act.put]
  refine wpAnyH_take (i := 3) (v := .agg (cpC c)) rfl (by kernel_rfl) (by kernel_rfl) (by kernel_rfl) (fun _ _ _ h => h) (yieldsC w.heap.size c (fun _ h => h.get 0 _ _ _ rfl) _ rfl rfl rfl) hH ?_
  try simp only [Act.put]
  refine wpAnyH_ready (rs := [2]) (by kernel_rfl) (by simp) (AllReadyH.cons rfl (fun K hK => ?_) AllReadyH.nil)
  rw [if_pos (by rfl)]
  go_wp2_with (go_at_call 10; refine (hSp _ (tb'.out.below hH.low)).mono ?_; rintro e v18 ⟨rfl, hb18⟩)
  refine hK.out _ _ (hH.below hb18) (fun hH => ?_)
  clear hK K hb18
  try simp only [Act.put, List.setIfInBounds_toArray, List.set_cons_zero, List.set_cons_succ]
  refine wpAnyH_take (i := 4) (v := .bool false) rfl (by kernel_rfl) (by kernel_rfl) (by kernel_rfl) (fun _ _ _ h => h) (yields_neC c c rfl _ _ _ rfl rfl rfl rfl) hH ?_
  try simp only [Act.put, List.setIfInBounds_toArray]
  refine wpAnyH_take (i := 5) (v := .bool false) rfl (by kernel_rfl) (by kernel_rfl) (by kernel_rfl) (fun _ _ _ h => h) (.inl ⟨by rfl, fun u hu => by go_simp⟩) hH ?_
  try simp only [Act.put]
  refine wpAnyH_take (i := 6) (v := .agg (dvC D1)) rfl (by kernel_rfl) (by kernel_rfl) (by kernel_rfl) (fun _ _ _ h => h) (yieldsDl v12.heap.size D1 (fun _ h => h.get 5 _ _ _ rfl) _ (by kernel_rfl) rfl rfl) hH ?_
  try simp only [Act.put]
  refine wpAnyH_take (i := 7) (v := .pointer (some ⟨v15.heap.size, 0, none⟩)) rfl (by kernel_rfl) (by kernel_rfl) (by kernel_rfl) (fun _ _ _ h => h) (.inl ⟨by kernel_rfl, fun u hu => by go_simp⟩) hH ?_
  try simp only [Act.put]
  refine wpAnyH_take (i := 8) (v := .int .u8 D0.Code) rfl (by kernel_rfl) (by kernel_rfl) (by kernel_rfl) (fun _ _ _ h => h) (.inl ⟨by kernel_rfl, fun u hu => by have d := BoxD.f0 (hu.get 6 _ _ _ rfl); go_simp⟩) hH ?_
  try simp only [Act.put]
  refine wpAnyH_take (i := 9) (v := .pointer (some ⟨v15.heap.size, 1, none⟩)) rfl (by kernel_rfl) (by kernel_rfl) (by kernel_rfl) (fun _ _ _ h => h) (.inl ⟨by kernel_rfl, fun u hu => by go_simp⟩) hH ?_
  try simp only [Act.put]
  refine wpAnyH_take (i := 10) (v := .int .u16 D0.Addr) rfl (by kernel_rfl) (by kernel_rfl) (by kernel_rfl) (fun _ _ _ h => h) (.inl ⟨by kernel_rfl, fun u hu => by have d := BoxD.f1 (hu.get 6 _ _ _ rfl); go_simp⟩) hH ?_
  try simp only [Act.put]
  refine wpAnyH_take (i := 11) (v := .agg (dvC D1)) rfl (by kernel_rfl) (by kernel_rfl) (by kernel_rfl) (fun _ _ _ h => h) (yieldsD _ [(0, .int .u8 D0.Code), (1, .int .u16 D0.Addr)] D1 (by kernel_rfl) rfl (by first | (simp [Act.eval]; done) | (go_simp; done)) hbD.out) hH ?_
  try simp only [Act.put]
  refine wpAnyH_take (i := 12) (v := .bool false) rfl (by kernel_rfl) (by kernel_rfl) (by kernel_rfl) (fun _ _ _ h => h) (yields_neD D1 D1 rfl (.tmp 80) (.tmp 85) 37 (by kernel_rfl) (by kernel_rfl) (by kernel_rfl) (by kernel_rfl)) hH ?_
  try simp only [Act.put]
  refine wpAnyH_take (i := 13) (v := .bool false) rfl (by kernel_rfl) (by kernel_rfl) (by kernel_rfl) (fun _ _ _ h => h) (.inl ⟨by rfl, fun u hu => by go_simp⟩) hH ?_
  try simp only [Act.put]
  refine wpAnyH_done (by kernel_rfl) ?_ _
  have K18 : Hid (Fm w [(w.heap.size, cpC c, 26), (w.heap.size + 1, pnC { p with Mode := 1 }, 30), (w.heap.size + 2, pnC q, 30), (v1.heap.size, cpC S, 26), (v7.heap.size, cpC N, 26), (v12.heap.size, dvC D1, 37), (v15.heap.size, dvC D0, 37)] v18) := hH
  clear hH K17
  have dQ := BoxP.fMode (K18.out.get 2 _ _ _ rfl)
  have zQ := frozen_heap (K18.out.get 2 _ _ _ rfl) 0
  have K19 : Hid (Fm w [(w.heap.size, cpC c, 26), (w.heap.size + 1, pnC { p with Mode := 1 }, 30), (w.heap.size + 2, pnC { q with Mode := 2 }, 30), (v1.heap.size, cpC S, 26), (v7.heap.size, cpC N, 26), (v12.heap.size, dvC D1, 37), (v15.heap.size, dvC D0, 37)] (v18.setCell ⟨w.heap.size + 2, 0, none⟩ (.int .u8 2))) := K18.out.setCell 2 _ _ _ _ rfl 0 _ rfl
  go_simp
  go_wp2_with (first
    | ((with_reducible refine gen_world _ (Fm w [(w.heap.size, cpC c, 26), (w.heap.size + 1, pnC { p with Mode := 1 }, 30), (w.heap.size + 2, pnC { q with Mode := 2 }, 30), (v1.heap.size, cpC S, 26), (v7.heap.size, cpC N, 26), (v12.heap.size, dvC D1, 37), (v15.heap.size, dvC D0, 37)]) ?_ ?_); exact K19.out; intro y19 K19b)
    | (go_at_call 11; refine (hDf _ (tb'.out.below K25.out.low)).mono ?_; rintro e v26 ⟨rfl, hb26⟩; have K26 : Hid _ := K25.out.below hb26)
    | (go_at_call 10; refine (hSb _ (tb'.out.below K22.out.low)).mono ?_; rintro e v23 ⟨rfl, hb23⟩; have K23 : Hid _ := K22.out.below hb23)
    | (go_at_call 10; refine (hSr _ (tb'.out.below K19b.out.low)).mono ?_; rintro e v20 ⟨rfl, hb20⟩; have K20 : Hid _ := K19b.out.below hb20)
    | ((with_reducible refine gen_world _ (Fm w [(w.heap.size, cpC c, 26), (w.heap.size + 1, pnC { p with Mode := 1 }, 30), (w.heap.size + 2, pnC { q with Mode := 2 }, 30), (v1.heap.size, cpC S, 26), (v7.heap.size, cpC N, 26), (v12.heap.size, dvC D1, 37), (v15.heap.size, dvC D0, 37), (v20.heap.size, cpC zeroC, 26)]) ?_ ?_); exact K20.out.new _ _; intro y21 K21)
    | ((with_reducible refine at_storeC v20.heap.size zeroC R ?_ (.tmp 12) (.tmp 91) ?_ ?_ ?_ ?_ ?_); exact K21.out.get 7 _ _ _ rfl; rfl; rfl; rfl; rfl; intro y22 hw22; have K22 : Hid (Fm w [(w.heap.size, cpC c, 26), (w.heap.size + 1, pnC { p with Mode := 1 }, 30), (w.heap.size + 2, pnC { q with Mode := 2 }, 30), (v1.heap.size, cpC S, 26), (v7.heap.size, cpC N, 26), (v12.heap.size, dvC D1, 37), (v15.heap.size, dvC D0, 37), (v20.heap.size, cpC R, 26)] y22) := K21.out.put 7 _ _ _ _ rfl hw22.out; have qD : y22.cell? ⟨w.heap.size + 2, 1, none⟩ = some (.int .u8 q.Data) := BoxP.fData (p := { q with Mode := 2 }) (K22.out.get 2 _ _ _ rfl))
    | ((with_reducible refine wantP #[(0, .const (.int .u8 0)), (1, .tmp 94), (5, .const (.bool true))] [(0, .int .u8 0), (1, .int .u8 q.Data), (5, .bool true)] fp ?_ ?_ ?_ hbP.out ?_); rotate_left 1; rfl; kernel_rfl; rotate_left 1; kernel_rfl)
    | ((with_reducible refine gen_world _ (Fm w [(w.heap.size, cpC c, 26), (w.heap.size + 1, pnC { p with Mode := 1 }, 30), (w.heap.size + 2, pnC { q with Mode := 2 }, 30), (v1.heap.size, cpC S, 26), (v7.heap.size, cpC N, 26), (v12.heap.size, dvC D1, 37), (v15.heap.size, dvC D0, 37), (v20.heap.size, cpC R, 26), (v23.heap.size, cpC zeroC, 26)]) ?_ ?_); exact K23.out.new _ _; intro y24 K24)
    | ((with_reducible refine at_storeC v23.heap.size zeroC B ?_ (.tmp 13) (.tmp 96) ?_ ?_ ?_ ?_ ?_); exact K24.out.get 8 _ _ _ rfl; rfl; rfl; rfl; rfl; intro y25 hw25; have K25 : Hid (Fm w [(w.heap.size, cpC c, 26), (w.heap.size + 1, pnC { p with Mode := 1 }, 30), (w.heap.size + 2, pnC { q with Mode := 2 }, 30), (v1.heap.size, cpC S, 26), (v7.heap.size, cpC N, 26), (v12.heap.size, dvC D1, 37), (v15.heap.size, dvC D0, 37), (v20.heap.size, cpC R, 26), (v23.heap.size, cpC B, 26)] y25) := K24.out.put 8 _ _ _ _ rfl hw25.out)
    | ((with_reducible refine gen_world _ (Fm w [(w.heap.size, cpC c, 26), (w.heap.size + 1, pnC { p with Mode := 1 }, 30), (w.heap.size + 2, pnC { q with Mode := 2 }, 30), (v1.heap.size, cpC S, 26), (v7.heap.size, cpC N, 26), (v12.heap.size, dvC D1, 37), (v15.heap.size, dvC D0, 37), (v20.heap.size, cpC R, 26), (v23.heap.size, cpC B, 26), (v26.heap.size, dvC zeroD, 37)]) ?_ ?_); exact K26.out.new _ _; intro y27 K27)
    | ((with_reducible refine at_storeD v26.heap.size zeroD F ?_ (.tmp 14) (.tmp 98) ?_ ?_ ?_ ?_ ?_); exact K27.out.get 9 _ _ _ rfl; rfl; rfl; rfl; rfl; intro y28 hw28; have K28 : Hid (Fm w [(w.heap.size, cpC c, 26), (w.heap.size + 1, pnC { p with Mode := 1 }, 30), (w.heap.size + 2, pnC { q with Mode := 2 }, 30), (v1.heap.size, cpC S, 26), (v7.heap.size, cpC N, 26), (v12.heap.size, dvC D1, 37), (v15.heap.size, dvC D0, 37), (v20.heap.size, cpC R, 26), (v23.heap.size, cpC B, 26), (v26.heap.size, dvC F, 37)] y28) := K27.out.put 9 _ _ _ _ rfl hw28.out; have rc25 := BoxC.f (K28.out.get 7 _ _ _ rfl) 25 _ rf25.out; have rc19 := BoxC.f (K28.out.get 7 _ _ _ rfl) 19 _ rf19.out; have rc18 := BoxC.f (K28.out.get 7 _ _ _ rfl) 18 _ rf18.out; have bc25 := BoxC.f (K28.out.get 8 _ _ _ rfl) 25 _ bf25.out; have cX := BoxC.fX (K28.out.get 0 _ _ _ rfl); have cP := BoxC.fP (K28.out.get 0 _ _ _ rfl))
    | ((with_reducible refine at_loadRg v20.heap.size R ?_ (.tmp 117) ?_ ?_ ?_ ?_); rotate_left 2; rfl; rfl; rotate_left 1; exact K28.out.get 7 _ _ _ rfl; kernel_rfl)
    | ((with_reducible refine at_loadRg w.heap.size c ?_ (.tmp 119) ?_ ?_ ?_ ?_); rotate_left 2; rfl; rfl; rotate_left 1; exact K28.out.get 0 _ _ _ rfl; kernel_rfl)
    | ((with_reducible refine at_neR R c hRs.out (.tmp 118) (.tmp 120) 23 ?_ ?_ ?_ ?_ ?_); rotate_left 1; rfl; rfl; rfl; rotate_left 1; kernel_rfl)
    | ((with_reducible refine at_loadDg v26.heap.size F ?_ (.tmp 14) ?_ ?_ ?_ ?_); rotate_left 2; rfl; rfl; rotate_left 1; exact K28.out.get 9 _ _ _ rfl; kernel_rfl)
    | ((with_reducible refine wantD #[(0, .const (.int .u8 0)), (2, .const (.bool true)), (7, .const (.bool true))] [(0, .int .u8 0), (2, .bool true), (7, .bool true)] F ?_ ?_ ?_ hbF.out (some 130) ?_ ?_); rotate_left 1; rfl; kernel_rfl; rfl; rotate_left 1; kernel_rfl)
    | ((with_reducible refine at_neD F F rfl (.tmp 129) (.tmp 130) 37 ?_ ?_ ?_ ?_ ?_); rotate_left 1; rfl; rfl; rfl; rotate_left 1; kernel_rfl)
    | ((with_reducible refine at_loadCg v23.heap.size B ?_ (.tmp 13) ?_ ?_ ?_ ?_); rotate_left 2; rfl; rfl; rotate_left 1; exact K25.out.get 8 _ _ _ rfl; kernel_rfl)
    | ((with_reducible refine at_loadCg v20.heap.size R ?_ (.tmp 12) ?_ ?_ ?_ ?_); rotate_left 2; rfl; rfl; rotate_left 1; exact K22.out.get 7 _ _ _ rfl; kernel_rfl)
    | ((with_reducible refine at_loadCg w.heap.size c ?_ (.tmp 3) ?_ ?_ ?_ ?_); rotate_left 2; rfl; rfl; rotate_left 1; exact K19b.out.get 0 _ _ _ rfl; kernel_rfl)
    | ((with_reducible refine at_loadP (w.heap.size + 2) { q with Mode := 2 } ?_ (.tmp 5) ?_ ?_ ?_ ?_); exact K19b.out.get 2 _ _ _ rfl; rfl; rfl; rfl))
  clear K18 K19 K19b K20 K21 K22 K23 K24 K25 K26 K27 hw22 hw25 hw28 hb20 hb23 hb26 dQ zQ qD rc25 rc19 rc18 bc25 cX cP
  go_loopw [15] (fun i wz => ∃ (k : Nat) (wx : World), wx = wz ∧ 1 ≤ k ∧ k ≤ 16 ∧ i = .int .i64 (k : Int) ∧ Hid (Fm w [(w.heap.size, cpC c, 26), (w.heap.size + 1, pnC { p with Mode := 1 }, 30), (w.heap.size + 2, pnC { q with Mode := 2 }, 30), (v1.heap.size, cpC S, 26), (v7.heap.size, cpC N, 26), (v12.heap.size, dvC D1, 37), (v15.heap.size, dvC D0, 37), (v20.heap.size, cpC R, 26), (v23.heap.size, cpC B, 26), (v26.heap.size, dvC F, 37)] wx)) (fun i _ => (16 - intOf i).toNat)
  case atStart => exact ⟨1, _, rfl, by decide, by decide, rfl, K28⟩
  case round =>
    clear K28
    obtain ⟨k, wx, rfl, hk1, hk, rfl, K⟩ := hrel
    by_cases hlt : k < 16
    · have q1 : (k : Int) < 16 := by omega
      have ix : ∀ (g : Nat) v, (Instr.indexAt 23 (.pointer (some ⟨g, 0, none⟩)) (.int .i64 (k : Int))).run Tryd.prog v = .ok (.pointer (some ⟨g, k, none⟩)) v := fun g v => by
        have := idx (g := g) (off := 0) (N := 16) Tryd.underlying23 infoR .i64 k v hlt
        simpa using this
      have hb : Hid (∀ x, Fm w [(w.heap.size, cpC c, 26), (w.heap.size + 1, pnC { p with Mode := 1 }, 30), (w.heap.size + 2, pnC { q with Mode := 2 }, 30), (v1.heap.size, cpC S, 26), (v7.heap.size, cpC N, 26), (v12.heap.size, dvC D1, 37), (v15.heap.size, dvC D0, 37), (v20.heap.size, cpC R, 26), (v23.heap.size, cpC B, 26), (v26.heap.size, dvC F, 37)] x → x.cell? ⟨v23.heap.size, k, none⟩ = some (.int .u16 (c.R k))) := fun x h => hBR.out k (by omega) hlt _ _ (h.get 8 _ _ _ rfl)
      have hc : Hid (∀ x, Fm w [(w.heap.size, cpC c, 26), (w.heap.size + 1, pnC { p with Mode := 1 }, 30), (w.heap.size + 2, pnC { q with Mode := 2 }, 30), (v1.heap.size, cpC S, 26), (v7.heap.size, cpC N, 26), (v12.heap.size, dvC D1, 37), (v15.heap.size, dvC D0, 37), (v20.heap.size, cpC R, 26), (v23.heap.size, cpC B, 26), (v26.heap.size, dvC F, 37)] x → x.cell? ⟨w.heap.size, k, none⟩ = some (.int .u16 (c.R k))) := fun x h => BoxC.r (h.get 0 _ _ _ rfl) k hlt
      obtain ⟨V, hV⟩ : ∃ V, c.R k = V := ⟨_, rfl⟩
      rw [hV] at hb hc
      have hk' : Hid (1 ≤ k ∧ k < 16) := ⟨hk1, hlt⟩
      clear hV hk1 hk hlt
      go_wp2
      refine region_class_tail 8 (Fm w [(w.heap.size, cpC c, 26), (w.heap.size + 1, pnC { p with Mode := 1 }, 30), (w.heap.size + 2, pnC { q with Mode := 2 }, 30), (v1.heap.size, cpC S, 26), (v7.heap.size, cpC N, 26), (v12.heap.size, dvC D1, 37), (v15.heap.size, dvC D0, 37), (v20.heap.size, cpC R, 26), (v23.heap.size, cpC B, 26), (v26.heap.size, dvC F, 37)]) (by kernel_rfl) (by kernel_rfl) (K.out.below (below_drew (Below.refl _ _))) ?_
      simp only [List.take_succ_cons, List.take_zero, List.drop_succ_cons, List.drop_zero]
      refine quiet_one (.int .i64 (k : Int)) rfl (fun u hy => by go_simp) ?_
      refine quiet_one (.pointer (some ⟨v23.heap.size, 0, none⟩)) rfl (fun u hy => by go_simp) ?_
      refine quiet_one (.pointer (some ⟨v23.heap.size, k, none⟩)) rfl (fun u hy => by go_simp) ?_
      refine quiet_one (.int .u16 V) rfl (fun u hy => by have d := hb.out _ hy; go_simp) ?_
      refine quiet_one (.int .i64 (k : Int)) rfl (fun u hy => by go_simp) ?_
      refine quiet_one (.pointer (some ⟨w.heap.size, 0, none⟩)) rfl (fun u hy => by go_simp) ?_
      refine quiet_one (.pointer (some ⟨w.heap.size, k, none⟩)) rfl (fun u hy => by go_simp) ?_
      refine quiet_one (.int .u16 V) rfl (fun u hy => by have d := hc.out _ hy; go_simp) ?_
      refine wpQuiet_nil ?_
      intro y30 K30
      replace K30 : Hid _ := K30
      go_simp
      go_wp2
      go_roundw
      case rel => exact ⟨k + 1, _, rfl, by omega, by have := hk'.out; omega, by simp, K30⟩
      case measure => have := hk'.out; simp [intOf]; omega
    · have hke : k = 16 := by omega
      subst hke
      clear hBR hk1 hk hlt
      have b25 := BoxC.f (K.out.get 8 _ _ _ rfl) 25 _ bf25.out
      have b0 := BoxC.f (K.out.get 8 _ _ _ rfl) 0 _ bf0.out
      have b18 := BoxC.f (K.out.get 8 _ _ _ rfl) 18 _ bf18.out
      have b19 := BoxC.f (K.out.get 8 _ _ _ rfl) 19 _ bf19.out
      have b21 := BoxC.f (K.out.get 8 _ _ _ rfl) 21 _ bf21.out
      have b22 := BoxC.f (K.out.get 8 _ _ _ rfl) 22 _ bf22.out
      have b16 := BoxC.f (K.out.get 8 _ _ _ rfl) 16 _ bf16.out
      have b17 := BoxC.f (K.out.get 8 _ _ _ rfl) 17 _ bf17.out
      have b20 := BoxC.f (K.out.get 8 _ _ _ rfl) 20 _ bf20.out
      have cD := BoxC.fD (K.out.get 0 _ _ _ rfl)
      have cDF := BoxC.fDF (K.out.get 0 _ _ _ rfl)
      have cT := BoxC.fT (K.out.get 0 _ _ _ rfl)
      have ix0 : ∀ g v, (Instr.indexAt 23 (.pointer (some ⟨g, 0, none⟩)) (.int .i64 0)).run Tryd.prog v = .ok (.pointer (some ⟨g, 0, none⟩)) v := fun g v => by have := idx (g := g) (off := 0) (N := 16) Tryd.underlying23 infoR .i64 0 v (by decide); simpa using this
      go_wp2
      go_ret
      exact ⟨by first | rfl | simp, K.out.low⟩
theorem may_walk (w : World) (c : Cp) (hc : c.wf) (p : Pn) (hp : p.wf) (q : Pn) (hq : q.wf) (tb : Tabs w) : Calls Tryd.prog 3 #[.agg (cpC c), .agg (pnC p), .agg (pnC q)] w fun e w' => e = .returned (.bool true) ∧ Below w.heap.size w w' := by
  rcases hch : checkB c with _ | _
  · exact may_no w c hc p hp q hq tb hch
  by_cases h3 : 3 < p.Mode
  · exact may_mode w c hc p hp q hq tb hch h3
  · exact may_all w c hc p hp q hq tb hch (by omega)
end Go.Proofs.YtbeeefekndcgnaaDoor
