/- The document's processor: a cycle The document's processor: a cycle of the mode Load; any cycle; the beginning Pins that lie in a row; processors and drives held against each other where only reading is done. -/
import Derived.Test.YtbeeefekndcgnaaGreatDoorCpS
import Derived.Test.YtbeeefekndcgnaaGreatDoorCpI
import Derived.Test.YtbeeefekndcgnaaGreatDoorLb
import Derived.Test.YtbeeefekndcgnaaGreatDoorLg
namespace Go.Proofs.YtbeeefekndcgnaaGreatDoor
open Go Go.RowKit
set_option linter.unusedVariables false
set_option maxHeartbeats 1000000
set_option maxRecDepth 20000

theorem Fm.cpz (w : World) (c : Cp) (p : Pn) : Fm w [(w.heap.size, cpC c, 26), (w.heap.size + 1, pnC p, 38), (w.heap.size + 2, cpC zeroC, 26)] (((w.alloc (.cells (cpC c) 26)).alloc (.cells (pnC p) 38)).alloc (.cells (cpC zeroC) 26)) := by
  have h := (((Fm.nil w).new (cpC c) 26).new (pnC p) 38).new (cpC zeroC) 26
  simpa using h
theorem rgoOn_1 (w : World) (c : Cp) (hc : c.wf) (hP : c.P < 16) (hX : c.X < 16) (p : Pn) (hp : p.wf) (h : c.Ph = 1) : Calls Tryz.prog 23 #[.agg (cpC c), .agg (pnC p)] w fun e w' => e = .returned (.agg (cpC { ({ c with Op := p.Data.toNat }.up c.P) with Ph := 2 })) ∧ Below w.heap.size w w' := by
  have hph : (c.Ph : Int) = 1 := by omega
  replace hph : Hid _ := hph
  have hd := hp.Data
  have h1 : ((p.Data.toNat : Nat) : Int) = p.Data := by omega
  have hu := fun v => rup_any v { c with Op := p.Data.toNat } ⟨hc.R, hc.D, hc.P, hc.X, hc.T, by show p.Data.toNat < 256; omega, hc.B, hc.Ph⟩ c.P hP
  have hop : Hid ((cpC c).setIfInBounds 23 (.int .u8 p.Data) = cpC { c with Op := p.Data.toNat }) := (by rw [← h1]; rfl : (cpC c).setIfInBounds 23 (.int .u8 p.Data) = cpC { c with Op := p.Data.toNat })
  clear h1 hd
  have zz := zeroVC
  have hF : Hid (Fm w [(w.heap.size, cpC c, 26), (w.heap.size + 1, pnC p, 38), (w.heap.size + 2, cpC zeroC, 26)] (((w.alloc (.cells (cpC c) 26)).alloc (.cells (pnC p) 38)).alloc (.cells (cpC zeroC) 26))) := Fm.cpz w c p
  clear hc hp hP hX h
  go_enter Tryz.func23, Tryz.ntmps23
  go_wp2_with (first
    | (refine gen_world (((w.alloc (.cells (cpC c) 26)).alloc (.cells (pnC p) 38)).alloc (.cells (cpC zeroC) 26)) (Fm w [(w.heap.size, cpC c, 26), (w.heap.size + 1, pnC p, 38), (w.heap.size + 2, cpC zeroC, 26)]) hF.out ?_; intro y0 K0; have d25 := BoxC.fPh (K0.out.get 0 _ _ _ rfl); rw [hph.out] at d25; have pd := BoxP.fData (K0.out.get 1 _ _ _ rfl); have o1 := BoxC.f (K0.out.get 0 _ _ _ rfl) 23 _ rfl; have z1 := frozen_heap (K0.out.get 0 _ _ _ rfl) 23; have S1 : Hid (Fm w [(w.heap.size, cpC { c with Op := p.Data.toNat }, 26), (w.heap.size + 1, pnC p, 38), (w.heap.size + 2, cpC zeroC, 26)] (y0.setCell ⟨w.heap.size, 23, none⟩ (.int .u8 p.Data))) := K0.out.setCell 0 _ _ _ _ rfl 23 _ (hop.out))
    | (go_at_call 30; refine (hu _).mono ?_; rintro e v2 ⟨rfl, hb2⟩; have J2 : Hid (Fm w [(w.heap.size, cpC { c with Op := p.Data.toNat }, 26), (w.heap.size + 1, pnC p, 38), (w.heap.size + 2, cpC zeroC, 26)] v2) := K1.out.below hb2)
    | (refine gen_world (y0.setCell ⟨w.heap.size, 23, none⟩ (.int .u8 p.Data)) (Fm w [(w.heap.size, cpC { c with Op := p.Data.toNat }, 26), (w.heap.size + 1, pnC p, 38), (w.heap.size + 2, cpC zeroC, 26)]) S1.out ?_; intro y1 K1; have dP : y1.cell? ⟨w.heap.size, 18, none⟩ = some (.int .u8 (c.P : Int)) := BoxC.fP (c := { c with Op := p.Data.toNat }) (K1.out.get 0 _ _ _ rfl))
    | (refine at_storeC w.heap.size { c with Op := p.Data.toNat } ({ c with Op := p.Data.toNat }.up c.P) (J2.out.get 0 _ _ _ rfl) _ _ rfl rfl rfl rfl ?_; intro y2 hw2; have K2 : Hid (Fm w [(w.heap.size, cpC ({ c with Op := p.Data.toNat }.up c.P), 26), (w.heap.size + 1, pnC p, 38), (w.heap.size + 2, cpC zeroC, 26)] y2) := J2.out.put 0 _ _ _ _ rfl hw2.out; have o3 := BoxC.f (K2.out.get 0 _ _ _ rfl) 25 _ rfl; have z3 := frozen_heap (K2.out.get 0 _ _ _ rfl) 25; have S3 : Hid (Fm w [(w.heap.size, cpC { ({ c with Op := p.Data.toNat }.up c.P) with Ph := 2 }, 26), (w.heap.size + 1, pnC p, 38), (w.heap.size + 2, cpC zeroC, 26)] (y2.setCell ⟨w.heap.size, 25, none⟩ (.int .u8 2))) := K2.out.setCell 0 _ _ _ _ rfl 25 _ (rfl))
    | (refine gen_world (y2.setCell ⟨w.heap.size, 25, none⟩ (.int .u8 2)) (Fm w [(w.heap.size, cpC { ({ c with Op := p.Data.toNat }.up c.P) with Ph := 2 }, 26), (w.heap.size + 1, pnC p, 38), (w.heap.size + 2, cpC zeroC, 26)]) S3.out ?_; intro y3 K3)
    | (refine at_storeC (w.heap.size + 2) zeroC { ({ c with Op := p.Data.toNat }.up c.P) with Ph := 2 } (K3.out.get 2 _ _ _ rfl) _ _ rfl rfl rfl rfl ?_; intro w2 hw2)
    | (refine at_loadC w.heap.size { ({ c with Op := p.Data.toNat }.up c.P) with Ph := 2 } (K3.out.get 0 _ _ _ rfl) _ rfl rfl rfl ?_)
    | (refine at_loadP (w.heap.size + 1) p (K3.out.get 1 _ _ _ rfl) _ rfl rfl rfl ?_)
    | (refine at_loadC w.heap.size ({ c with Op := p.Data.toNat }.up c.P) (K2.out.get 0 _ _ _ rfl) _ rfl rfl rfl ?_)
    | (refine at_loadP (w.heap.size + 1) p (K2.out.get 1 _ _ _ rfl) _ rfl rfl rfl ?_)
    | (refine at_loadC w.heap.size { c with Op := p.Data.toNat } (K1.out.get 0 _ _ _ rfl) _ rfl rfl rfl ?_)
    | (refine at_loadP (w.heap.size + 1) p (K1.out.get 1 _ _ _ rfl) _ rfl rfl rfl ?_)
    | (refine at_loadC w.heap.size c (K0.out.get 0 _ _ _ rfl) _ rfl rfl rfl ?_)
    | (refine at_loadP (w.heap.size + 1) p (K0.out.get 1 _ _ _ rfl) _ rfl rfl rfl ?_))
  refine retC Tryz.results23 rfl hw2.out.1 rfl ⟨rfl, K3.out.low.trans (hw2.out.2.1 _ (by omega))⟩
theorem rgoOn_2l (w : World) (c : Cp) (hc : c.wf) (hP : c.P < 16) (hX : c.X < 16) (p : Pn) (hp : p.wf) (h : c.Ph = 2) (h12 : c.Op / 16 = 12) (N : Cp) (hN : doesM c p = N) : Calls Tryz.prog 23 #[.agg (cpC c), .agg (pnC p)] w fun e w' => e = .returned (.agg (cpC { N with Ph := 3 })) ∧ Below w.heap.size w w' := by
  have hph : (c.Ph : Int) = 2 := by omega
  replace hph : Hid _ := hph
  have hdo := fun v => rdoes_any v c hc hP hX p hp
  rw [hN] at hdo
  have hO : N.Op = c.Op := by rw [← hN]; exact doesM_Op c p
  have hl := fun v => rlong_any c.Op v hc.Op
  obtain ⟨o, ho⟩ : ∃ o : Int, (c.Op : Int) = o := ⟨_, rfl⟩
  have hNo : Hid ((N.Op : Int) = o) := (by rw [hO]; exact ho : (N.Op : Int) = o)
  rw [ho] at hl
  rw [decide_eq_true h12] at hl
  have zz := zeroVC
  have hF : Hid (Fm w [(w.heap.size, cpC c, 26), (w.heap.size + 1, pnC p, 38), (w.heap.size + 2, cpC zeroC, 26)] (((w.alloc (.cells (cpC c) 26)).alloc (.cells (pnC p) 38)).alloc (.cells (cpC zeroC) 26))) := Fm.cpz w c p
  clear hc hp hP hX h hO hN ho h12
  go_enter Tryz.func23, Tryz.ntmps23
  go_wp2_with (first
    | (refine gen_world (((w.alloc (.cells (cpC c) 26)).alloc (.cells (pnC p) 38)).alloc (.cells (cpC zeroC) 26)) (Fm w [(w.heap.size, cpC c, 26), (w.heap.size + 1, pnC p, 38), (w.heap.size + 2, cpC zeroC, 26)]) hF.out ?_; intro y0 K0; have d25 := BoxC.fPh (K0.out.get 0 _ _ _ rfl); rw [hph.out] at d25)
    | (go_at_call 16; refine (hl _).mono ?_; rintro e vl ⟨rfl, hvl⟩; obtain rfl := hvl.symm)
    | (go_at_call 31; refine (hdo _).mono ?_; rintro e v1 ⟨rfl, hb1⟩; have J1 : Hid (Fm w [(w.heap.size, cpC c, 26), (w.heap.size + 1, pnC p, 38), (w.heap.size + 2, cpC zeroC, 26)] v1) := K0.out.below hb1)
    | (refine at_storeC w.heap.size c N (J1.out.get 0 _ _ _ rfl) _ _ rfl rfl rfl rfl ?_; intro y1 hw1; have K1 : Hid (Fm w [(w.heap.size, cpC N, 26), (w.heap.size + 1, pnC p, 38), (w.heap.size + 2, cpC zeroC, 26)] y1) := J1.out.put 0 _ _ _ _ rfl hw1.out; have dO := BoxC.fOp (K1.out.get 0 _ _ _ rfl); rw [hNo.out] at dO; have o2 := BoxC.f (K1.out.get 0 _ _ _ rfl) 25 _ rfl; have z2 := frozen_heap (K1.out.get 0 _ _ _ rfl) 25; have S2 : Hid (Fm w [(w.heap.size, cpC { N with Ph := 3 }, 26), (w.heap.size + 1, pnC p, 38), (w.heap.size + 2, cpC zeroC, 26)] (y1.setCell ⟨w.heap.size, 25, none⟩ (.int .u8 3))) := K1.out.setCell 0 _ _ _ _ rfl 25 _ (rfl))
    | (refine gen_world (y1.setCell ⟨w.heap.size, 25, none⟩ (.int .u8 3)) (Fm w [(w.heap.size, cpC { N with Ph := 3 }, 26), (w.heap.size + 1, pnC p, 38), (w.heap.size + 2, cpC zeroC, 26)]) S2.out ?_; intro y2 K2)
    | (refine at_storeC (w.heap.size + 2) zeroC { N with Ph := 3 } (K2.out.get 2 _ _ _ rfl) _ _ rfl rfl rfl rfl ?_; intro w2 hw2)
    | (refine at_loadC w.heap.size { N with Ph := 3 } (K2.out.get 0 _ _ _ rfl) _ rfl rfl rfl ?_)
    | (refine at_loadP (w.heap.size + 1) p (K2.out.get 1 _ _ _ rfl) _ rfl rfl rfl ?_)
    | (refine at_loadC w.heap.size N (K1.out.get 0 _ _ _ rfl) _ rfl rfl rfl ?_)
    | (refine at_loadP (w.heap.size + 1) p (K1.out.get 1 _ _ _ rfl) _ rfl rfl rfl ?_)
    | (refine at_loadC w.heap.size c (K0.out.get 0 _ _ _ rfl) _ rfl rfl rfl ?_)
    | (refine at_loadP (w.heap.size + 1) p (K0.out.get 1 _ _ _ rfl) _ rfl rfl rfl ?_))
  refine retC Tryz.results23 rfl hw2.out.1 rfl ⟨rfl, K2.out.low.trans (hw2.out.2.1 _ (by omega))⟩
theorem rgoOn_20 (w : World) (c : Cp) (hc : c.wf) (hP : c.P < 16) (hX : c.X < 16) (p : Pn) (hp : p.wf) (h : c.Ph = 2) (h12 : c.Op / 16 ≠ 12) (h0 : c.Op = 0) (N : Cp) (hN : doesM c p = N) : Calls Tryz.prog 23 #[.agg (cpC c), .agg (pnC p)] w fun e w' => e = .returned (.agg (cpC { N with Ph := askedM N p false 4 })) ∧ Below w.heap.size w w' := by
  have hph : (c.Ph : Int) = 2 := by omega
  replace hph : Hid _ := hph
  have hdo := fun v => rdoes_any v c hc hP hX p hp
  rw [hN] at hdo
  have hO : N.Op = c.Op := by rw [← hN]; exact doesM_Op c p
  have hl := fun v => rlong_any c.Op v hc.Op
  obtain ⟨o, ho⟩ : ∃ o : Int, (c.Op : Int) = o := ⟨_, rfl⟩
  have hNo : Hid ((N.Op : Int) = o) := (by rw [hO]; exact ho : (N.Op : Int) = o)
  rw [ho] at hl
  rw [decide_eq_false h12] at hl
  have hz : (o == 0) = true := by simp; omega
  have ha := fun v => rasked_any v N p false 4
  have zz := zeroVC
  have hF : Hid (Fm w [(w.heap.size, cpC c, 26), (w.heap.size + 1, pnC p, 38), (w.heap.size + 2, cpC zeroC, 26)] (((w.alloc (.cells (cpC c) 26)).alloc (.cells (pnC p) 38)).alloc (.cells (cpC zeroC) 26))) := Fm.cpz w c p
  clear hc hp hP hX h hO hN ho h12 h0
  go_enter Tryz.func23, Tryz.ntmps23
  go_wp2_with (first
    | (refine gen_world (((w.alloc (.cells (cpC c) 26)).alloc (.cells (pnC p) 38)).alloc (.cells (cpC zeroC) 26)) (Fm w [(w.heap.size, cpC c, 26), (w.heap.size + 1, pnC p, 38), (w.heap.size + 2, cpC zeroC, 26)]) hF.out ?_; intro y0 K0; have d25 := BoxC.fPh (K0.out.get 0 _ _ _ rfl); rw [hph.out] at d25)
    | (go_at_call 16; refine (hl _).mono ?_; rintro e vl ⟨rfl, hvl⟩; obtain rfl := hvl.symm)
    | (go_at_call 32; refine (ha _).mono ?_; rintro e y2 ⟨rfl, hb2⟩; have K2 : Hid (Fm w [(w.heap.size, cpC N, 26), (w.heap.size + 1, pnC p, 38), (w.heap.size + 2, cpC zeroC, 26)] y2) := K1.out.below hb2; have o3 := BoxC.f (K2.out.get 0 _ _ _ rfl) 25 _ rfl; have z3 := frozen_heap (K2.out.get 0 _ _ _ rfl) 25; have S3 : Hid (Fm w [(w.heap.size, cpC { N with Ph := askedM N p false 4 }, 26), (w.heap.size + 1, pnC p, 38), (w.heap.size + 2, cpC zeroC, 26)] (y2.setCell ⟨w.heap.size, 25, none⟩ (.int .u8 ((askedM N p false 4 : Nat) : Int)))) := K2.out.setCell 0 _ _ _ _ rfl 25 _ (rfl))
    | (go_at_call 31; refine (hdo _).mono ?_; rintro e v1 ⟨rfl, hb1⟩; have J1 : Hid (Fm w [(w.heap.size, cpC c, 26), (w.heap.size + 1, pnC p, 38), (w.heap.size + 2, cpC zeroC, 26)] v1) := K0.out.below hb1)
    | (refine at_storeC w.heap.size c N (J1.out.get 0 _ _ _ rfl) _ _ rfl rfl rfl rfl ?_; intro y1 hw1; have K1 : Hid (Fm w [(w.heap.size, cpC N, 26), (w.heap.size + 1, pnC p, 38), (w.heap.size + 2, cpC zeroC, 26)] y1) := J1.out.put 0 _ _ _ _ rfl hw1.out; have dO := BoxC.fOp (K1.out.get 0 _ _ _ rfl); rw [hNo.out] at dO)
    | (refine gen_world (y2.setCell ⟨w.heap.size, 25, none⟩ (.int .u8 ((askedM N p false 4 : Nat) : Int))) (Fm w [(w.heap.size, cpC { N with Ph := askedM N p false 4 }, 26), (w.heap.size + 1, pnC p, 38), (w.heap.size + 2, cpC zeroC, 26)]) S3.out ?_; intro y3 K3)
    | (refine at_storeC (w.heap.size + 2) zeroC { N with Ph := askedM N p false 4 } (K3.out.get 2 _ _ _ rfl) _ _ rfl rfl rfl rfl ?_; intro w2 hw2)
    | (refine at_loadC w.heap.size { N with Ph := askedM N p false 4 } (K3.out.get 0 _ _ _ rfl) _ rfl rfl rfl ?_)
    | (refine at_loadP (w.heap.size + 1) p (K3.out.get 1 _ _ _ rfl) _ rfl rfl rfl ?_)
    | (refine at_loadC w.heap.size N (K2.out.get 0 _ _ _ rfl) _ rfl rfl rfl ?_)
    | (refine at_loadP (w.heap.size + 1) p (K2.out.get 1 _ _ _ rfl) _ rfl rfl rfl ?_)
    | (refine at_loadC w.heap.size N (K1.out.get 0 _ _ _ rfl) _ rfl rfl rfl ?_)
    | (refine at_loadP (w.heap.size + 1) p (K1.out.get 1 _ _ _ rfl) _ rfl rfl rfl ?_)
    | (refine at_loadC w.heap.size c (K0.out.get 0 _ _ _ rfl) _ rfl rfl rfl ?_)
    | (refine at_loadP (w.heap.size + 1) p (K0.out.get 1 _ _ _ rfl) _ rfl rfl rfl ?_))
  refine retC Tryz.results23 rfl hw2.out.1 rfl ⟨rfl, K3.out.low.trans (hw2.out.2.1 _ (by omega))⟩
theorem rgoOn_21 (w : World) (c : Cp) (hc : c.wf) (hP : c.P < 16) (hX : c.X < 16) (p : Pn) (hp : p.wf) (h : c.Ph = 2) (h12 : c.Op / 16 ≠ 12) (h0 : c.Op ≠ 0) (N : Cp) (hN : doesM c p = N) : Calls Tryz.prog 23 #[.agg (cpC c), .agg (pnC p)] w fun e w' => e = .returned (.agg (cpC { N with Ph := askedM N p false 1 })) ∧ Below w.heap.size w w' := by
  have hph : (c.Ph : Int) = 2 := by omega
  replace hph : Hid _ := hph
  have hdo := fun v => rdoes_any v c hc hP hX p hp
  rw [hN] at hdo
  have hO : N.Op = c.Op := by rw [← hN]; exact doesM_Op c p
  have hl := fun v => rlong_any c.Op v hc.Op
  obtain ⟨o, ho⟩ : ∃ o : Int, (c.Op : Int) = o := ⟨_, rfl⟩
  have hNo : Hid ((N.Op : Int) = o) := (by rw [hO]; exact ho : (N.Op : Int) = o)
  rw [ho] at hl
  rw [decide_eq_false h12] at hl
  have hz : (o == 0) = false := by simp; omega
  have ha := fun v => rasked_any v N p false 1
  have zz := zeroVC
  have hF : Hid (Fm w [(w.heap.size, cpC c, 26), (w.heap.size + 1, pnC p, 38), (w.heap.size + 2, cpC zeroC, 26)] (((w.alloc (.cells (cpC c) 26)).alloc (.cells (pnC p) 38)).alloc (.cells (cpC zeroC) 26))) := Fm.cpz w c p
  clear hc hp hP hX h hO hN ho h12 h0
  go_enter Tryz.func23, Tryz.ntmps23
  go_wp2_with (first
    | (refine gen_world (((w.alloc (.cells (cpC c) 26)).alloc (.cells (pnC p) 38)).alloc (.cells (cpC zeroC) 26)) (Fm w [(w.heap.size, cpC c, 26), (w.heap.size + 1, pnC p, 38), (w.heap.size + 2, cpC zeroC, 26)]) hF.out ?_; intro y0 K0; have d25 := BoxC.fPh (K0.out.get 0 _ _ _ rfl); rw [hph.out] at d25)
    | (go_at_call 16; refine (hl _).mono ?_; rintro e vl ⟨rfl, hvl⟩; obtain rfl := hvl.symm)
    | (go_at_call 32; refine (ha _).mono ?_; rintro e y2 ⟨rfl, hb2⟩; have K2 : Hid (Fm w [(w.heap.size, cpC N, 26), (w.heap.size + 1, pnC p, 38), (w.heap.size + 2, cpC zeroC, 26)] y2) := K1.out.below hb2; have o3 := BoxC.f (K2.out.get 0 _ _ _ rfl) 25 _ rfl; have z3 := frozen_heap (K2.out.get 0 _ _ _ rfl) 25; have S3 : Hid (Fm w [(w.heap.size, cpC { N with Ph := askedM N p false 1 }, 26), (w.heap.size + 1, pnC p, 38), (w.heap.size + 2, cpC zeroC, 26)] (y2.setCell ⟨w.heap.size, 25, none⟩ (.int .u8 ((askedM N p false 1 : Nat) : Int)))) := K2.out.setCell 0 _ _ _ _ rfl 25 _ (rfl))
    | (go_at_call 31; refine (hdo _).mono ?_; rintro e v1 ⟨rfl, hb1⟩; have J1 : Hid (Fm w [(w.heap.size, cpC c, 26), (w.heap.size + 1, pnC p, 38), (w.heap.size + 2, cpC zeroC, 26)] v1) := K0.out.below hb1)
    | (refine at_storeC w.heap.size c N (J1.out.get 0 _ _ _ rfl) _ _ rfl rfl rfl rfl ?_; intro y1 hw1; have K1 : Hid (Fm w [(w.heap.size, cpC N, 26), (w.heap.size + 1, pnC p, 38), (w.heap.size + 2, cpC zeroC, 26)] y1) := J1.out.put 0 _ _ _ _ rfl hw1.out; have dO := BoxC.fOp (K1.out.get 0 _ _ _ rfl); rw [hNo.out] at dO)
    | (refine gen_world (y2.setCell ⟨w.heap.size, 25, none⟩ (.int .u8 ((askedM N p false 1 : Nat) : Int))) (Fm w [(w.heap.size, cpC { N with Ph := askedM N p false 1 }, 26), (w.heap.size + 1, pnC p, 38), (w.heap.size + 2, cpC zeroC, 26)]) S3.out ?_; intro y3 K3)
    | (refine at_storeC (w.heap.size + 2) zeroC { N with Ph := askedM N p false 1 } (K3.out.get 2 _ _ _ rfl) _ _ rfl rfl rfl rfl ?_; intro w2 hw2)
    | (refine at_loadC w.heap.size { N with Ph := askedM N p false 1 } (K3.out.get 0 _ _ _ rfl) _ rfl rfl rfl ?_)
    | (refine at_loadP (w.heap.size + 1) p (K3.out.get 1 _ _ _ rfl) _ rfl rfl rfl ?_)
    | (refine at_loadC w.heap.size N (K2.out.get 0 _ _ _ rfl) _ rfl rfl rfl ?_)
    | (refine at_loadP (w.heap.size + 1) p (K2.out.get 1 _ _ _ rfl) _ rfl rfl rfl ?_)
    | (refine at_loadC w.heap.size N (K1.out.get 0 _ _ _ rfl) _ rfl rfl rfl ?_)
    | (refine at_loadP (w.heap.size + 1) p (K1.out.get 1 _ _ _ rfl) _ rfl rfl rfl ?_)
    | (refine at_loadC w.heap.size c (K0.out.get 0 _ _ _ rfl) _ rfl rfl rfl ?_)
    | (refine at_loadP (w.heap.size + 1) p (K0.out.get 1 _ _ _ rfl) _ rfl rfl rfl ?_))
  refine retC Tryz.results23 rfl hw2.out.1 rfl ⟨rfl, K3.out.low.trans (hw2.out.2.1 _ (by omega))⟩
theorem rgoOn_3 (w : World) (c : Cp) (hc : c.wf) (hP : c.P < 16) (hX : c.X < 16) (p : Pn) (hp : p.wf) (h : c.Ph = 3) (N : Cp) (hN : long2M c p = N) : Calls Tryz.prog 23 #[.agg (cpC c), .agg (pnC p)] w fun e w' => e = .returned (.agg (cpC { N with Ph := askedM N p false 1 })) ∧ Below w.heap.size w w' := by
  have hph : (c.Ph : Int) = 3 := by omega
  replace hph : Hid _ := hph
  have hl := fun v => rlong2_any v c hc hP p hp
  rw [hN] at hl
  have ha := fun v => rasked_any v N p false 1
  have zz := zeroVC
  have hF : Hid (Fm w [(w.heap.size, cpC c, 26), (w.heap.size + 1, pnC p, 38), (w.heap.size + 2, cpC zeroC, 26)] (((w.alloc (.cells (cpC c) 26)).alloc (.cells (pnC p) 38)).alloc (.cells (cpC zeroC) 26))) := Fm.cpz w c p
  clear hc hp hP hX h hN
  go_enter Tryz.func23, Tryz.ntmps23
  go_wp2_with (first
    | (refine gen_world (((w.alloc (.cells (cpC c) 26)).alloc (.cells (pnC p) 38)).alloc (.cells (cpC zeroC) 26)) (Fm w [(w.heap.size, cpC c, 26), (w.heap.size + 1, pnC p, 38), (w.heap.size + 2, cpC zeroC, 26)]) hF.out ?_; intro y0 K0; have d25 := BoxC.fPh (K0.out.get 0 _ _ _ rfl); rw [hph.out] at d25)
    | (go_at_call 32; refine (ha _).mono ?_; rintro e y2 ⟨rfl, hb2⟩; have K2 : Hid (Fm w [(w.heap.size, cpC N, 26), (w.heap.size + 1, pnC p, 38), (w.heap.size + 2, cpC zeroC, 26)] y2) := K1.out.below hb2; have o3 := BoxC.f (K2.out.get 0 _ _ _ rfl) 25 _ rfl; have z3 := frozen_heap (K2.out.get 0 _ _ _ rfl) 25; have S3 : Hid (Fm w [(w.heap.size, cpC { N with Ph := askedM N p false 1 }, 26), (w.heap.size + 1, pnC p, 38), (w.heap.size + 2, cpC zeroC, 26)] (y2.setCell ⟨w.heap.size, 25, none⟩ (.int .u8 ((askedM N p false 1 : Nat) : Int)))) := K2.out.setCell 0 _ _ _ _ rfl 25 _ (rfl))
    | (go_at_call 33; refine (hl _).mono ?_; rintro e v1 ⟨rfl, hb1⟩; have J1 : Hid (Fm w [(w.heap.size, cpC c, 26), (w.heap.size + 1, pnC p, 38), (w.heap.size + 2, cpC zeroC, 26)] v1) := K0.out.below hb1)
    | (refine at_storeC w.heap.size c N (J1.out.get 0 _ _ _ rfl) _ _ rfl rfl rfl rfl ?_; intro y1 hw1; have K1 : Hid (Fm w [(w.heap.size, cpC N, 26), (w.heap.size + 1, pnC p, 38), (w.heap.size + 2, cpC zeroC, 26)] y1) := J1.out.put 0 _ _ _ _ rfl hw1.out)
    | (refine gen_world (y2.setCell ⟨w.heap.size, 25, none⟩ (.int .u8 ((askedM N p false 1 : Nat) : Int))) (Fm w [(w.heap.size, cpC { N with Ph := askedM N p false 1 }, 26), (w.heap.size + 1, pnC p, 38), (w.heap.size + 2, cpC zeroC, 26)]) S3.out ?_; intro y3 K3)
    | (refine at_storeC (w.heap.size + 2) zeroC { N with Ph := askedM N p false 1 } (K3.out.get 2 _ _ _ rfl) _ _ rfl rfl rfl rfl ?_; intro w2 hw2)
    | (refine at_loadC w.heap.size { N with Ph := askedM N p false 1 } (K3.out.get 0 _ _ _ rfl) _ rfl rfl rfl ?_)
    | (refine at_loadP (w.heap.size + 1) p (K3.out.get 1 _ _ _ rfl) _ rfl rfl rfl ?_)
    | (refine at_loadC w.heap.size N (K2.out.get 0 _ _ _ rfl) _ rfl rfl rfl ?_)
    | (refine at_loadP (w.heap.size + 1) p (K2.out.get 1 _ _ _ rfl) _ rfl rfl rfl ?_)
    | (refine at_loadC w.heap.size N (K1.out.get 0 _ _ _ rfl) _ rfl rfl rfl ?_)
    | (refine at_loadP (w.heap.size + 1) p (K1.out.get 1 _ _ _ rfl) _ rfl rfl rfl ?_)
    | (refine at_loadC w.heap.size c (K0.out.get 0 _ _ _ rfl) _ rfl rfl rfl ?_)
    | (refine at_loadP (w.heap.size + 1) p (K0.out.get 1 _ _ _ rfl) _ rfl rfl rfl ?_))
  refine retC Tryz.results23 rfl hw2.out.1 rfl ⟨rfl, K3.out.low.trans (hw2.out.2.1 _ (by omega))⟩
theorem rgoOn_4 (w : World) (c : Cp) (hc : c.wf) (hP : c.P < 16) (hX : c.X < 16) (p : Pn) (hp : p.wf) (h : c.Ph = 4) : Calls Tryz.prog 23 #[.agg (cpC c), .agg (pnC p)] w fun e w' => e = .returned (.agg (cpC { c with Ph := askedM c p false 4 })) ∧ Below w.heap.size w w' := by
  have hph : (c.Ph : Int) = 4 := by omega
  replace hph : Hid _ := hph
  have ha := fun v => rasked_any v c p false 4
  have zz := zeroVC
  have hF : Hid (Fm w [(w.heap.size, cpC c, 26), (w.heap.size + 1, pnC p, 38), (w.heap.size + 2, cpC zeroC, 26)] (((w.alloc (.cells (cpC c) 26)).alloc (.cells (pnC p) 38)).alloc (.cells (cpC zeroC) 26))) := Fm.cpz w c p
  clear hc hp hP hX h
  go_enter Tryz.func23, Tryz.ntmps23
  go_wp2_with (first
    | (refine gen_world (((w.alloc (.cells (cpC c) 26)).alloc (.cells (pnC p) 38)).alloc (.cells (cpC zeroC) 26)) (Fm w [(w.heap.size, cpC c, 26), (w.heap.size + 1, pnC p, 38), (w.heap.size + 2, cpC zeroC, 26)]) hF.out ?_; intro y0 K0; have d25 := BoxC.fPh (K0.out.get 0 _ _ _ rfl); rw [hph.out] at d25)
    | (go_at_call 32; refine (ha _).mono ?_; rintro e y1 ⟨rfl, hb1⟩; have K1 : Hid (Fm w [(w.heap.size, cpC c, 26), (w.heap.size + 1, pnC p, 38), (w.heap.size + 2, cpC zeroC, 26)] y1) := K0.out.below hb1; have o2 := BoxC.f (K1.out.get 0 _ _ _ rfl) 25 _ rfl; have z2 := frozen_heap (K1.out.get 0 _ _ _ rfl) 25; have S2 : Hid (Fm w [(w.heap.size, cpC { c with Ph := askedM c p false 4 }, 26), (w.heap.size + 1, pnC p, 38), (w.heap.size + 2, cpC zeroC, 26)] (y1.setCell ⟨w.heap.size, 25, none⟩ (.int .u8 ((askedM c p false 4 : Nat) : Int)))) := K1.out.setCell 0 _ _ _ _ rfl 25 _ (rfl))
    | (refine gen_world (y1.setCell ⟨w.heap.size, 25, none⟩ (.int .u8 ((askedM c p false 4 : Nat) : Int))) (Fm w [(w.heap.size, cpC { c with Ph := askedM c p false 4 }, 26), (w.heap.size + 1, pnC p, 38), (w.heap.size + 2, cpC zeroC, 26)]) S2.out ?_; intro y2 K2)
    | (refine at_storeC (w.heap.size + 2) zeroC { c with Ph := askedM c p false 4 } (K2.out.get 2 _ _ _ rfl) _ _ rfl rfl rfl rfl ?_; intro w2 hw2)
    | (refine at_loadC w.heap.size { c with Ph := askedM c p false 4 } (K2.out.get 0 _ _ _ rfl) _ rfl rfl rfl ?_)
    | (refine at_loadP (w.heap.size + 1) p (K2.out.get 1 _ _ _ rfl) _ rfl rfl rfl ?_)
    | (refine at_loadC w.heap.size c (K1.out.get 0 _ _ _ rfl) _ rfl rfl rfl ?_)
    | (refine at_loadP (w.heap.size + 1) p (K1.out.get 1 _ _ _ rfl) _ rfl rfl rfl ?_)
    | (refine at_loadC w.heap.size c (K0.out.get 0 _ _ _ rfl) _ rfl rfl rfl ?_)
    | (refine at_loadP (w.heap.size + 1) p (K0.out.get 1 _ _ _ rfl) _ rfl rfl rfl ?_))
  refine retC Tryz.results23 rfl hw2.out.1 rfl ⟨rfl, K2.out.low.trans (hw2.out.2.1 _ (by omega))⟩
theorem rgoOn_5 (w : World) (c : Cp) (hc : c.wf) (hP : c.P < 16) (hX : c.X < 16) (p : Pn) (hp : p.wf) (h : c.Ph = 5) (N : Cp) (hN : begunM c = N) : Calls Tryz.prog 23 #[.agg (cpC c), .agg (pnC p)] w fun e w' => e = .returned (.agg (cpC { N with Ph := askedM c p true 1 })) ∧ Below w.heap.size w w' := by
  have hph : (c.Ph : Int) = 5 := by omega
  replace hph : Hid _ := hph
  have hb := fun v => rbegun_any v c
  have hb' : ({ (c.setR 0 0) with X := 0, P := 0 } : Cp) = N := hN
  rw [hb'] at hb
  have he : askedM N p true 1 = askedM c p true 1 := by rw [← hN]; rfl
  have ha := fun v => rasked_any v N p true 1
  rw [he] at ha
  have zz := zeroVC
  have hF : Hid (Fm w [(w.heap.size, cpC c, 26), (w.heap.size + 1, pnC p, 38), (w.heap.size + 2, cpC zeroC, 26)] (((w.alloc (.cells (cpC c) 26)).alloc (.cells (pnC p) 38)).alloc (.cells (cpC zeroC) 26))) := Fm.cpz w c p
  clear hc hp hP hX h hN hb' he
  go_enter Tryz.func23, Tryz.ntmps23
  go_wp2_with (first
    | (refine gen_world (((w.alloc (.cells (cpC c) 26)).alloc (.cells (pnC p) 38)).alloc (.cells (cpC zeroC) 26)) (Fm w [(w.heap.size, cpC c, 26), (w.heap.size + 1, pnC p, 38), (w.heap.size + 2, cpC zeroC, 26)]) hF.out ?_; intro y0 K0; have d25 := BoxC.fPh (K0.out.get 0 _ _ _ rfl); rw [hph.out] at d25)
    | (go_at_call 32; refine (ha _).mono ?_; rintro e y2 ⟨rfl, hb2⟩; have K2 : Hid (Fm w [(w.heap.size, cpC N, 26), (w.heap.size + 1, pnC p, 38), (w.heap.size + 2, cpC zeroC, 26)] y2) := K1.out.below hb2; have o3 := BoxC.f (K2.out.get 0 _ _ _ rfl) 25 _ rfl; have z3 := frozen_heap (K2.out.get 0 _ _ _ rfl) 25; have S3 : Hid (Fm w [(w.heap.size, cpC { N with Ph := askedM c p true 1 }, 26), (w.heap.size + 1, pnC p, 38), (w.heap.size + 2, cpC zeroC, 26)] (y2.setCell ⟨w.heap.size, 25, none⟩ (.int .u8 ((askedM c p true 1 : Nat) : Int)))) := K2.out.setCell 0 _ _ _ _ rfl 25 _ (rfl))
    | (go_at_call 29; refine (hb _).mono ?_; rintro e v1 ⟨rfl, hb1⟩; have J1 : Hid (Fm w [(w.heap.size, cpC c, 26), (w.heap.size + 1, pnC p, 38), (w.heap.size + 2, cpC zeroC, 26)] v1) := K0.out.below hb1)
    | (refine at_storeC w.heap.size c N (J1.out.get 0 _ _ _ rfl) _ _ rfl rfl rfl rfl ?_; intro y1 hw1; have K1 : Hid (Fm w [(w.heap.size, cpC N, 26), (w.heap.size + 1, pnC p, 38), (w.heap.size + 2, cpC zeroC, 26)] y1) := J1.out.put 0 _ _ _ _ rfl hw1.out)
    | (refine gen_world (y2.setCell ⟨w.heap.size, 25, none⟩ (.int .u8 ((askedM c p true 1 : Nat) : Int))) (Fm w [(w.heap.size, cpC { N with Ph := askedM c p true 1 }, 26), (w.heap.size + 1, pnC p, 38), (w.heap.size + 2, cpC zeroC, 26)]) S3.out ?_; intro y3 K3)
    | (refine at_storeC (w.heap.size + 2) zeroC { N with Ph := askedM c p true 1 } (K3.out.get 2 _ _ _ rfl) _ _ rfl rfl rfl rfl ?_; intro w2 hw2)
    | (refine at_loadC w.heap.size { N with Ph := askedM c p true 1 } (K3.out.get 0 _ _ _ rfl) _ rfl rfl rfl ?_)
    | (refine at_loadP (w.heap.size + 1) p (K3.out.get 1 _ _ _ rfl) _ rfl rfl rfl ?_)
    | (refine at_loadC w.heap.size N (K2.out.get 0 _ _ _ rfl) _ rfl rfl rfl ?_)
    | (refine at_loadP (w.heap.size + 1) p (K2.out.get 1 _ _ _ rfl) _ rfl rfl rfl ?_)
    | (refine at_loadC w.heap.size N (K1.out.get 0 _ _ _ rfl) _ rfl rfl rfl ?_)
    | (refine at_loadP (w.heap.size + 1) p (K1.out.get 1 _ _ _ rfl) _ rfl rfl rfl ?_)
    | (refine at_loadC w.heap.size c (K0.out.get 0 _ _ _ rfl) _ rfl rfl rfl ?_)
    | (refine at_loadP (w.heap.size + 1) p (K0.out.get 1 _ _ _ rfl) _ rfl rfl rfl ?_))
  refine retC Tryz.results23 rfl hw2.out.1 rfl ⟨rfl, K3.out.low.trans (hw2.out.2.1 _ (by omega))⟩
theorem rgoOn_6 (w : World) (c : Cp) (hc : c.wf) (hP : c.P < 16) (hX : c.X < 16) (p : Pn) (hp : p.wf) (h : c.Ph = 6) (N : Cp) (hN : c.up 0 = N) : Calls Tryz.prog 23 #[.agg (cpC c), .agg (pnC p)] w fun e w' => e = .returned (.agg (cpC { N with Ph := askedM c p false 1 })) ∧ Below w.heap.size w w' := by
  have hph : (c.Ph : Int) = 6 := by omega
  replace hph : Hid _ := hph
  have hr := hc.R 0
  have he : askedM N p false 1 = askedM c p false 1 := by rw [← hN]; rfl
  have ha := fun v => rasked_any v N p false 1
  rw [he] at ha
  obtain ⟨R0, hR0⟩ : ∃ R0, (c.R 0 + 1) % 65536 = R0 := ⟨_, rfl⟩
  have hw : IntKind.u16.wrap (c.R 0 + 1) = R0 := by rw [IntKind.wrap_u16]; exact hR0
  have hset : Hid ((cpC c).setIfInBounds 0 (.int .u16 R0) = cpC N) := (by rw [← hN, ← hR0]; exact cpC_setR c 0 (by decide) _ : (cpC c).setIfInBounds 0 (.int .u16 R0) = cpC N)
  obtain ⟨r, hre⟩ : ∃ r, c.R 0 = r := ⟨_, rfl⟩
  rw [hre] at hR0 hw
  have dr0 : Hid ((cpC c)[0]? = some (.int .u16 r)) := (by rw [← hre]; rfl : (cpC c)[0]? = some (.int .u16 r))
  have ix0 : ∀ g v, (Instr.indexAt 23 (.pointer (some ⟨g, 0, none⟩)) (.int .i64 0)).run Tryz.prog v = .ok (.pointer (some ⟨g, 0, none⟩)) v := fun g v => by have := idx (g := g) (off := 0) (N := 16) Tryz.underlying23 infoR .i64 0 v (by decide); simpa using this
  have zz := zeroVC
  have hF : Hid (Fm w [(w.heap.size, cpC c, 26), (w.heap.size + 1, pnC p, 38), (w.heap.size + 2, cpC zeroC, 26)] (((w.alloc (.cells (cpC c) 26)).alloc (.cells (pnC p) 38)).alloc (.cells (cpC zeroC) 26))) := Fm.cpz w c p
  clear hc hp hP hX h hN he hre hr
  go_enter Tryz.func23, Tryz.ntmps23
  go_wp2_with (first
    | (refine gen_world (((w.alloc (.cells (cpC c) 26)).alloc (.cells (pnC p) 38)).alloc (.cells (cpC zeroC) 26)) (Fm w [(w.heap.size, cpC c, 26), (w.heap.size + 1, pnC p, 38), (w.heap.size + 2, cpC zeroC, 26)]) hF.out ?_; intro y0 K0; have d25 := BoxC.fPh (K0.out.get 0 _ _ _ rfl); rw [hph.out] at d25; have dr := BoxC.f (K0.out.get 0 _ _ _ rfl) 0 _ dr0.out; have o1 := BoxC.f (K0.out.get 0 _ _ _ rfl) 0 _ rfl; have z1 := frozen_heap (K0.out.get 0 _ _ _ rfl) 0; have S1 : Hid (Fm w [(w.heap.size, cpC N, 26), (w.heap.size + 1, pnC p, 38), (w.heap.size + 2, cpC zeroC, 26)] (y0.setCell ⟨w.heap.size, 0, none⟩ (.int .u16 R0))) := K0.out.setCell 0 _ _ _ _ rfl 0 _ (hset.out))
    | (go_at_call 32; refine (ha _).mono ?_; rintro e y2 ⟨rfl, hb2⟩; have K2 : Hid (Fm w [(w.heap.size, cpC N, 26), (w.heap.size + 1, pnC p, 38), (w.heap.size + 2, cpC zeroC, 26)] y2) := K1.out.below hb2; have o3 := BoxC.f (K2.out.get 0 _ _ _ rfl) 25 _ rfl; have z3 := frozen_heap (K2.out.get 0 _ _ _ rfl) 25; have S3 : Hid (Fm w [(w.heap.size, cpC { N with Ph := askedM c p false 1 }, 26), (w.heap.size + 1, pnC p, 38), (w.heap.size + 2, cpC zeroC, 26)] (y2.setCell ⟨w.heap.size, 25, none⟩ (.int .u8 ((askedM c p false 1 : Nat) : Int)))) := K2.out.setCell 0 _ _ _ _ rfl 25 _ (rfl))
    | (refine gen_world (y0.setCell ⟨w.heap.size, 0, none⟩ (.int .u16 R0)) (Fm w [(w.heap.size, cpC N, 26), (w.heap.size + 1, pnC p, 38), (w.heap.size + 2, cpC zeroC, 26)]) S1.out ?_; intro y1 K1)
    | (refine gen_world (y2.setCell ⟨w.heap.size, 25, none⟩ (.int .u8 ((askedM c p false 1 : Nat) : Int))) (Fm w [(w.heap.size, cpC { N with Ph := askedM c p false 1 }, 26), (w.heap.size + 1, pnC p, 38), (w.heap.size + 2, cpC zeroC, 26)]) S3.out ?_; intro y3 K3)
    | (refine at_storeC (w.heap.size + 2) zeroC { N with Ph := askedM c p false 1 } (K3.out.get 2 _ _ _ rfl) _ _ rfl rfl rfl rfl ?_; intro w2 hw2)
    | (refine at_loadC w.heap.size { N with Ph := askedM c p false 1 } (K3.out.get 0 _ _ _ rfl) _ rfl rfl rfl ?_)
    | (refine at_loadP (w.heap.size + 1) p (K3.out.get 1 _ _ _ rfl) _ rfl rfl rfl ?_)
    | (refine at_loadC w.heap.size N (K2.out.get 0 _ _ _ rfl) _ rfl rfl rfl ?_)
    | (refine at_loadP (w.heap.size + 1) p (K2.out.get 1 _ _ _ rfl) _ rfl rfl rfl ?_)
    | (refine at_loadC w.heap.size N (K1.out.get 0 _ _ _ rfl) _ rfl rfl rfl ?_)
    | (refine at_loadP (w.heap.size + 1) p (K1.out.get 1 _ _ _ rfl) _ rfl rfl rfl ?_)
    | (refine at_loadC w.heap.size c (K0.out.get 0 _ _ _ rfl) _ rfl rfl rfl ?_)
    | (refine at_loadP (w.heap.size + 1) p (K0.out.get 1 _ _ _ rfl) _ rfl rfl rfl ?_))
  refine retC Tryz.results23 rfl hw2.out.1 rfl ⟨rfl, K3.out.low.trans (hw2.out.2.1 _ (by omega))⟩
theorem rgoOn_7 (w : World) (c : Cp) (hc : c.wf) (hP : c.P < 16) (hX : c.X < 16) (p : Pn) (hp : p.wf) (h : c.Ph = 7) (N : Cp) (hN : c.up 0 = N) : Calls Tryz.prog 23 #[.agg (cpC c), .agg (pnC p)] w fun e w' => e = .returned (.agg (cpC { N with Ph := askedM c p false 1 })) ∧ Below w.heap.size w w' := by
  have hph : (c.Ph : Int) = 7 := by omega
  replace hph : Hid _ := hph
  have hr := hc.R 0
  have he : askedM N p false 1 = askedM c p false 1 := by rw [← hN]; rfl
  have ha := fun v => rasked_any v N p false 1
  rw [he] at ha
  obtain ⟨R0, hR0⟩ : ∃ R0, (c.R 0 + 1) % 65536 = R0 := ⟨_, rfl⟩
  have hw : IntKind.u16.wrap (c.R 0 + 1) = R0 := by rw [IntKind.wrap_u16]; exact hR0
  have hset : Hid ((cpC c).setIfInBounds 0 (.int .u16 R0) = cpC N) := (by rw [← hN, ← hR0]; exact cpC_setR c 0 (by decide) _ : (cpC c).setIfInBounds 0 (.int .u16 R0) = cpC N)
  obtain ⟨r, hre⟩ : ∃ r, c.R 0 = r := ⟨_, rfl⟩
  rw [hre] at hR0 hw
  have dr0 : Hid ((cpC c)[0]? = some (.int .u16 r)) := (by rw [← hre]; rfl : (cpC c)[0]? = some (.int .u16 r))
  have ix0 : ∀ g v, (Instr.indexAt 23 (.pointer (some ⟨g, 0, none⟩)) (.int .i64 0)).run Tryz.prog v = .ok (.pointer (some ⟨g, 0, none⟩)) v := fun g v => by have := idx (g := g) (off := 0) (N := 16) Tryz.underlying23 infoR .i64 0 v (by decide); simpa using this
  have zz := zeroVC
  have hF : Hid (Fm w [(w.heap.size, cpC c, 26), (w.heap.size + 1, pnC p, 38), (w.heap.size + 2, cpC zeroC, 26)] (((w.alloc (.cells (cpC c) 26)).alloc (.cells (pnC p) 38)).alloc (.cells (cpC zeroC) 26))) := Fm.cpz w c p
  clear hc hp hP hX h hN he hre hr
  go_enter Tryz.func23, Tryz.ntmps23
  go_wp2_with (first
    | (refine gen_world (((w.alloc (.cells (cpC c) 26)).alloc (.cells (pnC p) 38)).alloc (.cells (cpC zeroC) 26)) (Fm w [(w.heap.size, cpC c, 26), (w.heap.size + 1, pnC p, 38), (w.heap.size + 2, cpC zeroC, 26)]) hF.out ?_; intro y0 K0; have d25 := BoxC.fPh (K0.out.get 0 _ _ _ rfl); rw [hph.out] at d25; have dr := BoxC.f (K0.out.get 0 _ _ _ rfl) 0 _ dr0.out; have o1 := BoxC.f (K0.out.get 0 _ _ _ rfl) 0 _ rfl; have z1 := frozen_heap (K0.out.get 0 _ _ _ rfl) 0; have S1 : Hid (Fm w [(w.heap.size, cpC N, 26), (w.heap.size + 1, pnC p, 38), (w.heap.size + 2, cpC zeroC, 26)] (y0.setCell ⟨w.heap.size, 0, none⟩ (.int .u16 R0))) := K0.out.setCell 0 _ _ _ _ rfl 0 _ (hset.out))
    | (go_at_call 32; refine (ha _).mono ?_; rintro e y2 ⟨rfl, hb2⟩; have K2 : Hid (Fm w [(w.heap.size, cpC N, 26), (w.heap.size + 1, pnC p, 38), (w.heap.size + 2, cpC zeroC, 26)] y2) := K1.out.below hb2; have o3 := BoxC.f (K2.out.get 0 _ _ _ rfl) 25 _ rfl; have z3 := frozen_heap (K2.out.get 0 _ _ _ rfl) 25; have S3 : Hid (Fm w [(w.heap.size, cpC { N with Ph := askedM c p false 1 }, 26), (w.heap.size + 1, pnC p, 38), (w.heap.size + 2, cpC zeroC, 26)] (y2.setCell ⟨w.heap.size, 25, none⟩ (.int .u8 ((askedM c p false 1 : Nat) : Int)))) := K2.out.setCell 0 _ _ _ _ rfl 25 _ (rfl))
    | (refine gen_world (y0.setCell ⟨w.heap.size, 0, none⟩ (.int .u16 R0)) (Fm w [(w.heap.size, cpC N, 26), (w.heap.size + 1, pnC p, 38), (w.heap.size + 2, cpC zeroC, 26)]) S1.out ?_; intro y1 K1)
    | (refine gen_world (y2.setCell ⟨w.heap.size, 25, none⟩ (.int .u8 ((askedM c p false 1 : Nat) : Int))) (Fm w [(w.heap.size, cpC { N with Ph := askedM c p false 1 }, 26), (w.heap.size + 1, pnC p, 38), (w.heap.size + 2, cpC zeroC, 26)]) S3.out ?_; intro y3 K3)
    | (refine at_storeC (w.heap.size + 2) zeroC { N with Ph := askedM c p false 1 } (K3.out.get 2 _ _ _ rfl) _ _ rfl rfl rfl rfl ?_; intro w2 hw2)
    | (refine at_loadC w.heap.size { N with Ph := askedM c p false 1 } (K3.out.get 0 _ _ _ rfl) _ rfl rfl rfl ?_)
    | (refine at_loadP (w.heap.size + 1) p (K3.out.get 1 _ _ _ rfl) _ rfl rfl rfl ?_)
    | (refine at_loadC w.heap.size N (K2.out.get 0 _ _ _ rfl) _ rfl rfl rfl ?_)
    | (refine at_loadP (w.heap.size + 1) p (K2.out.get 1 _ _ _ rfl) _ rfl rfl rfl ?_)
    | (refine at_loadC w.heap.size N (K1.out.get 0 _ _ _ rfl) _ rfl rfl rfl ?_)
    | (refine at_loadP (w.heap.size + 1) p (K1.out.get 1 _ _ _ rfl) _ rfl rfl rfl ?_)
    | (refine at_loadC w.heap.size c (K0.out.get 0 _ _ _ rfl) _ rfl rfl rfl ?_)
    | (refine at_loadP (w.heap.size + 1) p (K0.out.get 1 _ _ _ rfl) _ rfl rfl rfl ?_))
  refine retC Tryz.results23 rfl hw2.out.1 rfl ⟨rfl, K3.out.low.trans (hw2.out.2.1 _ (by omega))⟩
theorem rgoOn_8 (w : World) (c : Cp) (hc : c.wf) (hP : c.P < 16) (hX : c.X < 16) (p : Pn) (hp : p.wf) (h : c.Ph = 8) (V : Int) (hV : 16 * (c.X : Int) + c.P = V) : Calls Tryz.prog 23 #[.agg (cpC c), .agg (pnC p)] w fun e w' => e = .returned (.agg (cpC { c with T := V, P := 1, X := 2, IE := false, Ph := askedM c p true 1 })) ∧ Below w.heap.size w w' := by
  have hph : (c.Ph : Int) = 8 := by omega
  replace hph : Hid _ := hph
  obtain ⟨xx, hx⟩ : ∃ x : Int, (c.X : Int) = x := ⟨_, rfl⟩
  obtain ⟨pp, hpp⟩ : ∃ x : Int, (c.P : Int) = x := ⟨_, rfl⟩
  have v1' : IntKind.u8.wrap (16 * xx) = 16 * xx := by rw [IntKind.wrap_u8]; omega
  have v2' : IntKind.u8.wrap (16 * xx + pp) = V := by rw [IntKind.wrap_u8]; omega
  have he : askedM { c with T := V, P := 1, X := 2, IE := false } p true 1 = askedM c p true 1 := by unfold askedM; simp
  have ha := fun v => rasked_any v { c with T := V, P := 1, X := 2, IE := false } p true 1
  rw [he] at ha
  replace hx : Hid _ := hx
  replace hpp : Hid _ := hpp
  have zz := zeroVC
  have hF : Hid (Fm w [(w.heap.size, cpC c, 26), (w.heap.size + 1, pnC p, 38), (w.heap.size + 2, cpC zeroC, 26)] (((w.alloc (.cells (cpC c) 26)).alloc (.cells (pnC p) 38)).alloc (.cells (cpC zeroC) 26))) := Fm.cpz w c p
  clear hc hp hP hX h hV he
  go_enter Tryz.func23, Tryz.ntmps23
  go_wp2_with (first
    | (refine gen_world (((w.alloc (.cells (cpC c) 26)).alloc (.cells (pnC p) 38)).alloc (.cells (cpC zeroC) 26)) (Fm w [(w.heap.size, cpC c, 26), (w.heap.size + 1, pnC p, 38), (w.heap.size + 2, cpC zeroC, 26)]) hF.out ?_; intro y0 K0; have d25 := BoxC.fPh (K0.out.get 0 _ _ _ rfl); rw [hph.out] at d25; have dX := BoxC.fX (K0.out.get 0 _ _ _ rfl); rw [hx.out] at dX; have dP := BoxC.fP (K0.out.get 0 _ _ _ rfl); rw [hpp.out] at dP; have o1 := BoxC.f (K0.out.get 0 _ _ _ rfl) 20 _ rfl; have z1 := frozen_heap (K0.out.get 0 _ _ _ rfl) 20; have S1 : Hid (Fm w [(w.heap.size, cpC { c with T := V }, 26), (w.heap.size + 1, pnC p, 38), (w.heap.size + 2, cpC zeroC, 26)] (y0.setCell ⟨w.heap.size, 20, none⟩ (.int .u8 V))) := K0.out.setCell 0 _ _ _ _ rfl 20 _ (rfl))
    | (go_at_call 32; refine (ha _).mono ?_; rintro e y5 ⟨rfl, hb5⟩; have K5 : Hid (Fm w [(w.heap.size, cpC { c with T := V, P := 1, X := 2, IE := false }, 26), (w.heap.size + 1, pnC p, 38), (w.heap.size + 2, cpC zeroC, 26)] y5) := K4.out.below hb5; have o6 := BoxC.f (K5.out.get 0 _ _ _ rfl) 25 _ rfl; have z6 := frozen_heap (K5.out.get 0 _ _ _ rfl) 25; have S6 : Hid (Fm w [(w.heap.size, cpC { c with T := V, P := 1, X := 2, IE := false, Ph := askedM c p true 1 }, 26), (w.heap.size + 1, pnC p, 38), (w.heap.size + 2, cpC zeroC, 26)] (y5.setCell ⟨w.heap.size, 25, none⟩ (.int .u8 ((askedM c p true 1 : Nat) : Int)))) := K5.out.setCell 0 _ _ _ _ rfl 25 _ (rfl))
    | (refine gen_world (y0.setCell ⟨w.heap.size, 20, none⟩ (.int .u8 V)) (Fm w [(w.heap.size, cpC { c with T := V }, 26), (w.heap.size + 1, pnC p, 38), (w.heap.size + 2, cpC zeroC, 26)]) S1.out ?_; intro y1 K1; have o2 := BoxC.f (K1.out.get 0 _ _ _ rfl) 18 _ rfl; have z2 := frozen_heap (K1.out.get 0 _ _ _ rfl) 18; have S2 : Hid (Fm w [(w.heap.size, cpC { c with T := V, P := 1 }, 26), (w.heap.size + 1, pnC p, 38), (w.heap.size + 2, cpC zeroC, 26)] (y1.setCell ⟨w.heap.size, 18, none⟩ (.int .u8 1))) := K1.out.setCell 0 _ _ _ _ rfl 18 _ (rfl))
    | (refine gen_world (y1.setCell ⟨w.heap.size, 18, none⟩ (.int .u8 1)) (Fm w [(w.heap.size, cpC { c with T := V, P := 1 }, 26), (w.heap.size + 1, pnC p, 38), (w.heap.size + 2, cpC zeroC, 26)]) S2.out ?_; intro y2 K2; have o3 := BoxC.f (K2.out.get 0 _ _ _ rfl) 19 _ rfl; have z3 := frozen_heap (K2.out.get 0 _ _ _ rfl) 19; have S3 : Hid (Fm w [(w.heap.size, cpC { c with T := V, P := 1, X := 2 }, 26), (w.heap.size + 1, pnC p, 38), (w.heap.size + 2, cpC zeroC, 26)] (y2.setCell ⟨w.heap.size, 19, none⟩ (.int .u8 2))) := K2.out.setCell 0 _ _ _ _ rfl 19 _ (rfl))
    | (refine gen_world (y2.setCell ⟨w.heap.size, 19, none⟩ (.int .u8 2)) (Fm w [(w.heap.size, cpC { c with T := V, P := 1, X := 2 }, 26), (w.heap.size + 1, pnC p, 38), (w.heap.size + 2, cpC zeroC, 26)]) S3.out ?_; intro y3 K3; have o4 := BoxC.f (K3.out.get 0 _ _ _ rfl) 21 _ rfl; have z4 := frozen_heap (K3.out.get 0 _ _ _ rfl) 21; have S4 : Hid (Fm w [(w.heap.size, cpC { c with T := V, P := 1, X := 2, IE := false }, 26), (w.heap.size + 1, pnC p, 38), (w.heap.size + 2, cpC zeroC, 26)] (y3.setCell ⟨w.heap.size, 21, none⟩ (.bool false))) := K3.out.setCell 0 _ _ _ _ rfl 21 _ (rfl))
    | (refine gen_world (y3.setCell ⟨w.heap.size, 21, none⟩ (.bool false)) (Fm w [(w.heap.size, cpC { c with T := V, P := 1, X := 2, IE := false }, 26), (w.heap.size + 1, pnC p, 38), (w.heap.size + 2, cpC zeroC, 26)]) S4.out ?_; intro y4 K4)
    | (refine gen_world (y5.setCell ⟨w.heap.size, 25, none⟩ (.int .u8 ((askedM c p true 1 : Nat) : Int))) (Fm w [(w.heap.size, cpC { c with T := V, P := 1, X := 2, IE := false, Ph := askedM c p true 1 }, 26), (w.heap.size + 1, pnC p, 38), (w.heap.size + 2, cpC zeroC, 26)]) S6.out ?_; intro y6 K6)
    | (refine at_storeC (w.heap.size + 2) zeroC { c with T := V, P := 1, X := 2, IE := false, Ph := askedM c p true 1 } (K6.out.get 2 _ _ _ rfl) _ _ rfl rfl rfl rfl ?_; intro w2 hw2)
    | (refine at_loadC w.heap.size { c with T := V, P := 1, X := 2, IE := false, Ph := askedM c p true 1 } (K6.out.get 0 _ _ _ rfl) _ rfl rfl rfl ?_)
    | (refine at_loadP (w.heap.size + 1) p (K6.out.get 1 _ _ _ rfl) _ rfl rfl rfl ?_)
    | (refine at_loadC w.heap.size { c with T := V, P := 1, X := 2, IE := false } (K5.out.get 0 _ _ _ rfl) _ rfl rfl rfl ?_)
    | (refine at_loadP (w.heap.size + 1) p (K5.out.get 1 _ _ _ rfl) _ rfl rfl rfl ?_)
    | (refine at_loadC w.heap.size { c with T := V, P := 1, X := 2, IE := false } (K4.out.get 0 _ _ _ rfl) _ rfl rfl rfl ?_)
    | (refine at_loadP (w.heap.size + 1) p (K4.out.get 1 _ _ _ rfl) _ rfl rfl rfl ?_)
    | (refine at_loadC w.heap.size { c with T := V, P := 1, X := 2 } (K3.out.get 0 _ _ _ rfl) _ rfl rfl rfl ?_)
    | (refine at_loadP (w.heap.size + 1) p (K3.out.get 1 _ _ _ rfl) _ rfl rfl rfl ?_)
    | (refine at_loadC w.heap.size { c with T := V, P := 1 } (K2.out.get 0 _ _ _ rfl) _ rfl rfl rfl ?_)
    | (refine at_loadP (w.heap.size + 1) p (K2.out.get 1 _ _ _ rfl) _ rfl rfl rfl ?_)
    | (refine at_loadC w.heap.size { c with T := V } (K1.out.get 0 _ _ _ rfl) _ rfl rfl rfl ?_)
    | (refine at_loadP (w.heap.size + 1) p (K1.out.get 1 _ _ _ rfl) _ rfl rfl rfl ?_)
    | (refine at_loadC w.heap.size c (K0.out.get 0 _ _ _ rfl) _ rfl rfl rfl ?_)
    | (refine at_loadP (w.heap.size + 1) p (K0.out.get 1 _ _ _ rfl) _ rfl rfl rfl ?_))
  refine retC Tryz.results23 rfl hw2.out.1 rfl ⟨rfl, K6.out.low.trans (hw2.out.2.1 _ (by omega))⟩
theorem rgoOn_any (w : World) (c : Cp) (hc : c.wf) (p : Pn) (hp : p.wf) (hch : checkB c = true) : Calls Tryz.prog 23 #[.agg (cpC c), .agg (pnC p)] w fun e w' => e = .returned (.agg (cpC (goOnM c p))) ∧ Below w.heap.size w w' := by
  obtain ⟨h1, h2, h3, h4, h5, h6, h7⟩ := (checkB_iff c).1 hch
  have hP : c.P < 16 := by omega
  have hX : c.X < 16 := by omega
  unfold goOnM
  rcases (show c.Ph = 1 ∨ c.Ph = 2 ∨ c.Ph = 3 ∨ c.Ph = 4 ∨ c.Ph = 5 ∨ c.Ph = 6 ∨ c.Ph = 7 ∨ c.Ph = 8 by omega) with h | h | h | h | h | h | h | h <;> simp only [h]
  · exact rgoOn_1 w c hc hP hX p hp h
  · by_cases h12 : c.Op / 16 = 12
    · rw [if_pos h12]; exact rgoOn_2l w c hc hP hX p hp h h12 _ rfl
    · rw [if_neg h12]
      by_cases h0 : c.Op = 0
      · rw [if_pos h0]; exact rgoOn_20 w c hc hP hX p hp h h12 h0 _ rfl
      · rw [if_neg h0]; exact rgoOn_21 w c hc hP hX p hp h h12 h0 _ rfl
  · exact rgoOn_3 w c hc hP hX p hp h _ rfl
  · exact rgoOn_4 w c hc hP hX p hp h
  · exact rgoOn_5 w c hc hP hX p hp h _ rfl
  · exact rgoOn_6 w c hc hP hX p hp h _ rfl
  · exact rgoOn_7 w c hc hP hX p hp h _ rfl
  · exact rgoOn_8 w c hc hP hX p hp h _ rfl
end Go.Proofs.YtbeeefekndcgnaaGreatDoor

namespace Go.Proofs.YtbeeefekndcgnaaGreatDoor
open Go Go.RowKit
set_option linter.unusedVariables false
set_option maxHeartbeats 1000000
set_option maxRecDepth 20000

theorem rload_5t (w : World) (c : Cp) (hc : c.wf) (p : Pn) (hp : p.wf) (h : c.Ph = 5) (N : Cp) (hN : begunM c = N) (hdi : p.DI = true) : Calls Tryz.prog 22 #[.agg (cpC c), .agg (pnC p)] w fun e w' => e = .returned (.agg (cpC { N with Ph := 6 })) ∧ Below w.heap.size w w' := by
  have hph : (c.Ph : Int) = 5 := by omega
  replace hph : Hid _ := hph
  have hb := fun v => rbegun_any v c
  have hb' : ({ (c.setR 0 0) with X := 0, P := 0 } : Cp) = N := hN
  rw [hb'] at hb
  replace hdi : Hid _ := hdi
  have zz := zeroVC
  have hF : Hid (Fm w [(w.heap.size, cpC c, 26), (w.heap.size + 1, pnC p, 38), (w.heap.size + 2, cpC zeroC, 26)] (((w.alloc (.cells (cpC c) 26)).alloc (.cells (pnC p) 38)).alloc (.cells (cpC zeroC) 26))) := Fm.cpz w c p
  clear hc hp h hN hb'
  go_enter Tryz.func22, Tryz.ntmps22
  go_wp2_with (first
    | (refine gen_world (((w.alloc (.cells (cpC c) 26)).alloc (.cells (pnC p) 38)).alloc (.cells (cpC zeroC) 26)) (Fm w [(w.heap.size, cpC c, 26), (w.heap.size + 1, pnC p, 38), (w.heap.size + 2, cpC zeroC, 26)]) hF.out ?_; intro y0 K0; have d25 := BoxC.fPh (K0.out.get 0 _ _ _ rfl); rw [hph.out] at d25; have dI := BoxP.fDI (K0.out.get 1 _ _ _ rfl); rw [hdi.out] at dI)
    | (go_at_call 29; refine (hb _).mono ?_; rintro e v1 ⟨rfl, hb1⟩; have J1 : Hid (Fm w [(w.heap.size, cpC c, 26), (w.heap.size + 1, pnC p, 38), (w.heap.size + 2, cpC zeroC, 26)] v1) := K0.out.below hb1)
    | (refine at_storeC w.heap.size c N (J1.out.get 0 _ _ _ rfl) _ _ rfl rfl rfl rfl ?_; intro y1 hw1; have K1 : Hid (Fm w [(w.heap.size, cpC N, 26), (w.heap.size + 1, pnC p, 38), (w.heap.size + 2, cpC zeroC, 26)] y1) := J1.out.put 0 _ _ _ _ rfl hw1.out; have dI := BoxP.fDI (K1.out.get 1 _ _ _ rfl); rw [hdi.out] at dI; have o2 := BoxC.f (K1.out.get 0 _ _ _ rfl) 25 _ rfl; have z2 := frozen_heap (K1.out.get 0 _ _ _ rfl) 25; have S2 : Hid (Fm w [(w.heap.size, cpC { N with Ph := 6 }, 26), (w.heap.size + 1, pnC p, 38), (w.heap.size + 2, cpC zeroC, 26)] (y1.setCell ⟨w.heap.size, 25, none⟩ (.int .u8 6))) := K1.out.setCell 0 _ _ _ _ rfl 25 _ (rfl))
    | (refine gen_world (y1.setCell ⟨w.heap.size, 25, none⟩ (.int .u8 6)) (Fm w [(w.heap.size, cpC { N with Ph := 6 }, 26), (w.heap.size + 1, pnC p, 38), (w.heap.size + 2, cpC zeroC, 26)]) S2.out ?_; intro y2 K2)
    | (refine at_storeC (w.heap.size + 2) zeroC { N with Ph := 6 } (K2.out.get 2 _ _ _ rfl) _ _ rfl rfl rfl rfl ?_; intro w2 hw2)
    | (refine at_loadC w.heap.size { N with Ph := 6 } (K2.out.get 0 _ _ _ rfl) _ rfl rfl rfl ?_)
    | (refine at_loadP (w.heap.size + 1) p (K2.out.get 1 _ _ _ rfl) _ rfl rfl rfl ?_)
    | (refine at_loadC w.heap.size N (K1.out.get 0 _ _ _ rfl) _ rfl rfl rfl ?_)
    | (refine at_loadP (w.heap.size + 1) p (K1.out.get 1 _ _ _ rfl) _ rfl rfl rfl ?_)
    | (refine at_loadC w.heap.size c (K0.out.get 0 _ _ _ rfl) _ rfl rfl rfl ?_)
    | (refine at_loadP (w.heap.size + 1) p (K0.out.get 1 _ _ _ rfl) _ rfl rfl rfl ?_))
  refine retC Tryz.results22 rfl hw2.out.1 rfl ⟨rfl, K2.out.low.trans (hw2.out.2.1 _ (by omega))⟩
theorem rload_5f (w : World) (c : Cp) (hc : c.wf) (p : Pn) (hp : p.wf) (h : c.Ph = 5) (N : Cp) (hN : begunM c = N) (hdi : p.DI = false) : Calls Tryz.prog 22 #[.agg (cpC c), .agg (pnC p)] w fun e w' => e = .returned (.agg (cpC { N with Ph := 4, Op := 0 })) ∧ Below w.heap.size w w' := by
  have hph : (c.Ph : Int) = 5 := by omega
  replace hph : Hid _ := hph
  have hb := fun v => rbegun_any v c
  have hb' : ({ (c.setR 0 0) with X := 0, P := 0 } : Cp) = N := hN
  rw [hb'] at hb
  replace hdi : Hid _ := hdi
  have zz := zeroVC
  have hF : Hid (Fm w [(w.heap.size, cpC c, 26), (w.heap.size + 1, pnC p, 38), (w.heap.size + 2, cpC zeroC, 26)] (((w.alloc (.cells (cpC c) 26)).alloc (.cells (pnC p) 38)).alloc (.cells (cpC zeroC) 26))) := Fm.cpz w c p
  clear hc hp h hN hb'
  go_enter Tryz.func22, Tryz.ntmps22
  go_wp2_with (first
    | (refine gen_world (((w.alloc (.cells (cpC c) 26)).alloc (.cells (pnC p) 38)).alloc (.cells (cpC zeroC) 26)) (Fm w [(w.heap.size, cpC c, 26), (w.heap.size + 1, pnC p, 38), (w.heap.size + 2, cpC zeroC, 26)]) hF.out ?_; intro y0 K0; have d25 := BoxC.fPh (K0.out.get 0 _ _ _ rfl); rw [hph.out] at d25; have dI := BoxP.fDI (K0.out.get 1 _ _ _ rfl); rw [hdi.out] at dI)
    | (go_at_call 29; refine (hb _).mono ?_; rintro e v1 ⟨rfl, hb1⟩; have J1 : Hid (Fm w [(w.heap.size, cpC c, 26), (w.heap.size + 1, pnC p, 38), (w.heap.size + 2, cpC zeroC, 26)] v1) := K0.out.below hb1)
    | (refine at_storeC w.heap.size c N (J1.out.get 0 _ _ _ rfl) _ _ rfl rfl rfl rfl ?_; intro y1 hw1; have K1 : Hid (Fm w [(w.heap.size, cpC N, 26), (w.heap.size + 1, pnC p, 38), (w.heap.size + 2, cpC zeroC, 26)] y1) := J1.out.put 0 _ _ _ _ rfl hw1.out; have dI := BoxP.fDI (K1.out.get 1 _ _ _ rfl); rw [hdi.out] at dI; have o2 := BoxC.f (K1.out.get 0 _ _ _ rfl) 25 _ rfl; have z2 := frozen_heap (K1.out.get 0 _ _ _ rfl) 25; have S2 : Hid (Fm w [(w.heap.size, cpC { N with Ph := 4 }, 26), (w.heap.size + 1, pnC p, 38), (w.heap.size + 2, cpC zeroC, 26)] (y1.setCell ⟨w.heap.size, 25, none⟩ (.int .u8 4))) := K1.out.setCell 0 _ _ _ _ rfl 25 _ (rfl))
    | (refine gen_world (y1.setCell ⟨w.heap.size, 25, none⟩ (.int .u8 4)) (Fm w [(w.heap.size, cpC { N with Ph := 4 }, 26), (w.heap.size + 1, pnC p, 38), (w.heap.size + 2, cpC zeroC, 26)]) S2.out ?_; intro y2 K2; have o3 := BoxC.f (K2.out.get 0 _ _ _ rfl) 23 _ rfl; have z3 := frozen_heap (K2.out.get 0 _ _ _ rfl) 23; have S3 : Hid (Fm w [(w.heap.size, cpC { N with Ph := 4, Op := 0 }, 26), (w.heap.size + 1, pnC p, 38), (w.heap.size + 2, cpC zeroC, 26)] (y2.setCell ⟨w.heap.size, 23, none⟩ (.int .u8 0))) := K2.out.setCell 0 _ _ _ _ rfl 23 _ (rfl))
    | (refine gen_world (y2.setCell ⟨w.heap.size, 23, none⟩ (.int .u8 0)) (Fm w [(w.heap.size, cpC { N with Ph := 4, Op := 0 }, 26), (w.heap.size + 1, pnC p, 38), (w.heap.size + 2, cpC zeroC, 26)]) S3.out ?_; intro y3 K3)
    | (refine at_storeC (w.heap.size + 2) zeroC { N with Ph := 4, Op := 0 } (K3.out.get 2 _ _ _ rfl) _ _ rfl rfl rfl rfl ?_; intro w2 hw2)
    | (refine at_loadC w.heap.size { N with Ph := 4, Op := 0 } (K3.out.get 0 _ _ _ rfl) _ rfl rfl rfl ?_)
    | (refine at_loadP (w.heap.size + 1) p (K3.out.get 1 _ _ _ rfl) _ rfl rfl rfl ?_)
    | (refine at_loadC w.heap.size { N with Ph := 4 } (K2.out.get 0 _ _ _ rfl) _ rfl rfl rfl ?_)
    | (refine at_loadP (w.heap.size + 1) p (K2.out.get 1 _ _ _ rfl) _ rfl rfl rfl ?_)
    | (refine at_loadC w.heap.size N (K1.out.get 0 _ _ _ rfl) _ rfl rfl rfl ?_)
    | (refine at_loadP (w.heap.size + 1) p (K1.out.get 1 _ _ _ rfl) _ rfl rfl rfl ?_)
    | (refine at_loadC w.heap.size c (K0.out.get 0 _ _ _ rfl) _ rfl rfl rfl ?_)
    | (refine at_loadP (w.heap.size + 1) p (K0.out.get 1 _ _ _ rfl) _ rfl rfl rfl ?_))
  refine retC Tryz.results22 rfl hw2.out.1 rfl ⟨rfl, K3.out.low.trans (hw2.out.2.1 _ (by omega))⟩
theorem rload_6t (w : World) (c : Cp) (hc : c.wf) (p : Pn) (hp : p.wf) (h : c.Ph = 6) (N : Cp) (hN : c.up 0 = N) (hdi : p.DI = true) : Calls Tryz.prog 22 #[.agg (cpC c), .agg (pnC p)] w fun e w' => e = .returned (.agg (cpC { N with Ph := 6 })) ∧ Below w.heap.size w w' := by
  have hph : (c.Ph : Int) = 6 := by omega
  replace hph : Hid _ := hph
  have hr := hc.R 0
  obtain ⟨R0, hR0⟩ : ∃ R0, (c.R 0 + 1) % 65536 = R0 := ⟨_, rfl⟩
  have hw : IntKind.u16.wrap (c.R 0 + 1) = R0 := by rw [IntKind.wrap_u16]; exact hR0
  have hset : Hid ((cpC c).setIfInBounds 0 (.int .u16 R0) = cpC N) := (by rw [← hN, ← hR0]; exact cpC_setR c 0 (by decide) _ : (cpC c).setIfInBounds 0 (.int .u16 R0) = cpC N)
  obtain ⟨r, hre⟩ : ∃ r, c.R 0 = r := ⟨_, rfl⟩
  rw [hre] at hR0 hw
  have dr0 : Hid ((cpC c)[0]? = some (.int .u16 r)) := (by rw [← hre]; rfl : (cpC c)[0]? = some (.int .u16 r))
  have ix0 : ∀ g v, (Instr.indexAt 23 (.pointer (some ⟨g, 0, none⟩)) (.int .i64 0)).run Tryz.prog v = .ok (.pointer (some ⟨g, 0, none⟩)) v := fun g v => by have := idx (g := g) (off := 0) (N := 16) Tryz.underlying23 infoR .i64 0 v (by decide); simpa using this
  replace hdi : Hid _ := hdi
  have zz := zeroVC
  have hF : Hid (Fm w [(w.heap.size, cpC c, 26), (w.heap.size + 1, pnC p, 38), (w.heap.size + 2, cpC zeroC, 26)] (((w.alloc (.cells (cpC c) 26)).alloc (.cells (pnC p) 38)).alloc (.cells (cpC zeroC) 26))) := Fm.cpz w c p
  clear hc hp h hN hre hr
  go_enter Tryz.func22, Tryz.ntmps22
  go_wp2_with (first
    | (refine gen_world (((w.alloc (.cells (cpC c) 26)).alloc (.cells (pnC p) 38)).alloc (.cells (cpC zeroC) 26)) (Fm w [(w.heap.size, cpC c, 26), (w.heap.size + 1, pnC p, 38), (w.heap.size + 2, cpC zeroC, 26)]) hF.out ?_; intro y0 K0; have d25 := BoxC.fPh (K0.out.get 0 _ _ _ rfl); rw [hph.out] at d25; have dr := BoxC.f (K0.out.get 0 _ _ _ rfl) 0 _ dr0.out; have dI := BoxP.fDI (K0.out.get 1 _ _ _ rfl); rw [hdi.out] at dI; have o1 := BoxC.f (K0.out.get 0 _ _ _ rfl) 0 _ rfl; have z1 := frozen_heap (K0.out.get 0 _ _ _ rfl) 0; have S1 : Hid (Fm w [(w.heap.size, cpC N, 26), (w.heap.size + 1, pnC p, 38), (w.heap.size + 2, cpC zeroC, 26)] (y0.setCell ⟨w.heap.size, 0, none⟩ (.int .u16 R0))) := K0.out.setCell 0 _ _ _ _ rfl 0 _ (hset.out))
    | (refine gen_world (y0.setCell ⟨w.heap.size, 0, none⟩ (.int .u16 R0)) (Fm w [(w.heap.size, cpC N, 26), (w.heap.size + 1, pnC p, 38), (w.heap.size + 2, cpC zeroC, 26)]) S1.out ?_; intro y1 K1; have dI := BoxP.fDI (K1.out.get 1 _ _ _ rfl); rw [hdi.out] at dI; have o2 := BoxC.f (K1.out.get 0 _ _ _ rfl) 25 _ rfl; have z2 := frozen_heap (K1.out.get 0 _ _ _ rfl) 25; have S2 : Hid (Fm w [(w.heap.size, cpC { N with Ph := 6 }, 26), (w.heap.size + 1, pnC p, 38), (w.heap.size + 2, cpC zeroC, 26)] (y1.setCell ⟨w.heap.size, 25, none⟩ (.int .u8 6))) := K1.out.setCell 0 _ _ _ _ rfl 25 _ (rfl))
    | (refine gen_world (y1.setCell ⟨w.heap.size, 25, none⟩ (.int .u8 6)) (Fm w [(w.heap.size, cpC { N with Ph := 6 }, 26), (w.heap.size + 1, pnC p, 38), (w.heap.size + 2, cpC zeroC, 26)]) S2.out ?_; intro y2 K2)
    | (refine at_storeC (w.heap.size + 2) zeroC { N with Ph := 6 } (K2.out.get 2 _ _ _ rfl) _ _ rfl rfl rfl rfl ?_; intro w2 hw2)
    | (refine at_loadC w.heap.size { N with Ph := 6 } (K2.out.get 0 _ _ _ rfl) _ rfl rfl rfl ?_)
    | (refine at_loadP (w.heap.size + 1) p (K2.out.get 1 _ _ _ rfl) _ rfl rfl rfl ?_)
    | (refine at_loadC w.heap.size N (K1.out.get 0 _ _ _ rfl) _ rfl rfl rfl ?_)
    | (refine at_loadP (w.heap.size + 1) p (K1.out.get 1 _ _ _ rfl) _ rfl rfl rfl ?_)
    | (refine at_loadC w.heap.size c (K0.out.get 0 _ _ _ rfl) _ rfl rfl rfl ?_)
    | (refine at_loadP (w.heap.size + 1) p (K0.out.get 1 _ _ _ rfl) _ rfl rfl rfl ?_))
  refine retC Tryz.results22 rfl hw2.out.1 rfl ⟨rfl, K2.out.low.trans (hw2.out.2.1 _ (by omega))⟩
theorem rload_6f (w : World) (c : Cp) (hc : c.wf) (p : Pn) (hp : p.wf) (h : c.Ph = 6) (N : Cp) (hN : c.up 0 = N) (hdi : p.DI = false) : Calls Tryz.prog 22 #[.agg (cpC c), .agg (pnC p)] w fun e w' => e = .returned (.agg (cpC { N with Ph := 4, Op := 0 })) ∧ Below w.heap.size w w' := by
  have hph : (c.Ph : Int) = 6 := by omega
  replace hph : Hid _ := hph
  have hr := hc.R 0
  obtain ⟨R0, hR0⟩ : ∃ R0, (c.R 0 + 1) % 65536 = R0 := ⟨_, rfl⟩
  have hw : IntKind.u16.wrap (c.R 0 + 1) = R0 := by rw [IntKind.wrap_u16]; exact hR0
  have hset : Hid ((cpC c).setIfInBounds 0 (.int .u16 R0) = cpC N) := (by rw [← hN, ← hR0]; exact cpC_setR c 0 (by decide) _ : (cpC c).setIfInBounds 0 (.int .u16 R0) = cpC N)
  obtain ⟨r, hre⟩ : ∃ r, c.R 0 = r := ⟨_, rfl⟩
  rw [hre] at hR0 hw
  have dr0 : Hid ((cpC c)[0]? = some (.int .u16 r)) := (by rw [← hre]; rfl : (cpC c)[0]? = some (.int .u16 r))
  have ix0 : ∀ g v, (Instr.indexAt 23 (.pointer (some ⟨g, 0, none⟩)) (.int .i64 0)).run Tryz.prog v = .ok (.pointer (some ⟨g, 0, none⟩)) v := fun g v => by have := idx (g := g) (off := 0) (N := 16) Tryz.underlying23 infoR .i64 0 v (by decide); simpa using this
  replace hdi : Hid _ := hdi
  have zz := zeroVC
  have hF : Hid (Fm w [(w.heap.size, cpC c, 26), (w.heap.size + 1, pnC p, 38), (w.heap.size + 2, cpC zeroC, 26)] (((w.alloc (.cells (cpC c) 26)).alloc (.cells (pnC p) 38)).alloc (.cells (cpC zeroC) 26))) := Fm.cpz w c p
  clear hc hp h hN hre hr
  go_enter Tryz.func22, Tryz.ntmps22
  go_wp2_with (first
    | (refine gen_world (((w.alloc (.cells (cpC c) 26)).alloc (.cells (pnC p) 38)).alloc (.cells (cpC zeroC) 26)) (Fm w [(w.heap.size, cpC c, 26), (w.heap.size + 1, pnC p, 38), (w.heap.size + 2, cpC zeroC, 26)]) hF.out ?_; intro y0 K0; have d25 := BoxC.fPh (K0.out.get 0 _ _ _ rfl); rw [hph.out] at d25; have dr := BoxC.f (K0.out.get 0 _ _ _ rfl) 0 _ dr0.out; have dI := BoxP.fDI (K0.out.get 1 _ _ _ rfl); rw [hdi.out] at dI; have o1 := BoxC.f (K0.out.get 0 _ _ _ rfl) 0 _ rfl; have z1 := frozen_heap (K0.out.get 0 _ _ _ rfl) 0; have S1 : Hid (Fm w [(w.heap.size, cpC N, 26), (w.heap.size + 1, pnC p, 38), (w.heap.size + 2, cpC zeroC, 26)] (y0.setCell ⟨w.heap.size, 0, none⟩ (.int .u16 R0))) := K0.out.setCell 0 _ _ _ _ rfl 0 _ (hset.out))
    | (refine gen_world (y0.setCell ⟨w.heap.size, 0, none⟩ (.int .u16 R0)) (Fm w [(w.heap.size, cpC N, 26), (w.heap.size + 1, pnC p, 38), (w.heap.size + 2, cpC zeroC, 26)]) S1.out ?_; intro y1 K1; have dI := BoxP.fDI (K1.out.get 1 _ _ _ rfl); rw [hdi.out] at dI; have o2 := BoxC.f (K1.out.get 0 _ _ _ rfl) 25 _ rfl; have z2 := frozen_heap (K1.out.get 0 _ _ _ rfl) 25; have S2 : Hid (Fm w [(w.heap.size, cpC { N with Ph := 4 }, 26), (w.heap.size + 1, pnC p, 38), (w.heap.size + 2, cpC zeroC, 26)] (y1.setCell ⟨w.heap.size, 25, none⟩ (.int .u8 4))) := K1.out.setCell 0 _ _ _ _ rfl 25 _ (rfl))
    | (refine gen_world (y1.setCell ⟨w.heap.size, 25, none⟩ (.int .u8 4)) (Fm w [(w.heap.size, cpC { N with Ph := 4 }, 26), (w.heap.size + 1, pnC p, 38), (w.heap.size + 2, cpC zeroC, 26)]) S2.out ?_; intro y2 K2; have o3 := BoxC.f (K2.out.get 0 _ _ _ rfl) 23 _ rfl; have z3 := frozen_heap (K2.out.get 0 _ _ _ rfl) 23; have S3 : Hid (Fm w [(w.heap.size, cpC { N with Ph := 4, Op := 0 }, 26), (w.heap.size + 1, pnC p, 38), (w.heap.size + 2, cpC zeroC, 26)] (y2.setCell ⟨w.heap.size, 23, none⟩ (.int .u8 0))) := K2.out.setCell 0 _ _ _ _ rfl 23 _ (rfl))
    | (refine gen_world (y2.setCell ⟨w.heap.size, 23, none⟩ (.int .u8 0)) (Fm w [(w.heap.size, cpC { N with Ph := 4, Op := 0 }, 26), (w.heap.size + 1, pnC p, 38), (w.heap.size + 2, cpC zeroC, 26)]) S3.out ?_; intro y3 K3)
    | (refine at_storeC (w.heap.size + 2) zeroC { N with Ph := 4, Op := 0 } (K3.out.get 2 _ _ _ rfl) _ _ rfl rfl rfl rfl ?_; intro w2 hw2)
    | (refine at_loadC w.heap.size { N with Ph := 4, Op := 0 } (K3.out.get 0 _ _ _ rfl) _ rfl rfl rfl ?_)
    | (refine at_loadP (w.heap.size + 1) p (K3.out.get 1 _ _ _ rfl) _ rfl rfl rfl ?_)
    | (refine at_loadC w.heap.size { N with Ph := 4 } (K2.out.get 0 _ _ _ rfl) _ rfl rfl rfl ?_)
    | (refine at_loadP (w.heap.size + 1) p (K2.out.get 1 _ _ _ rfl) _ rfl rfl rfl ?_)
    | (refine at_loadC w.heap.size N (K1.out.get 0 _ _ _ rfl) _ rfl rfl rfl ?_)
    | (refine at_loadP (w.heap.size + 1) p (K1.out.get 1 _ _ _ rfl) _ rfl rfl rfl ?_)
    | (refine at_loadC w.heap.size c (K0.out.get 0 _ _ _ rfl) _ rfl rfl rfl ?_)
    | (refine at_loadP (w.heap.size + 1) p (K0.out.get 1 _ _ _ rfl) _ rfl rfl rfl ?_))
  refine retC Tryz.results22 rfl hw2.out.1 rfl ⟨rfl, K3.out.low.trans (hw2.out.2.1 _ (by omega))⟩
theorem rload_0t (w : World) (c : Cp) (hc : c.wf) (p : Pn) (hp : p.wf) (h5 : c.Ph ≠ 5) (h6 : c.Ph ≠ 6) (N : Cp) (hN : ({ c with Op := 0, B := 0 } : Cp) = N) (hdi : p.DI = true) : Calls Tryz.prog 22 #[.agg (cpC c), .agg (pnC p)] w fun e w' => e = .returned (.agg (cpC { N with Ph := 6 })) ∧ Below w.heap.size w w' := by
  obtain ⟨ph, hph⟩ : ∃ x : Int, (c.Ph : Int) = x := ⟨_, rfl⟩
  have q5 : (ph == 5) = false := by simp; omega
  have q6 : (ph == 6) = false := by simp; omega
  replace hph : Hid _ := hph
  have hset : Hid ((cpC { c with Op := 0 }).setIfInBounds 24 (.int .u8 0) = cpC N) := (by rw [← hN]; rfl : (cpC { c with Op := 0 }).setIfInBounds 24 (.int .u8 0) = cpC N)
  replace hdi : Hid _ := hdi
  have zz := zeroVC
  have hF : Hid (Fm w [(w.heap.size, cpC c, 26), (w.heap.size + 1, pnC p, 38), (w.heap.size + 2, cpC zeroC, 26)] (((w.alloc (.cells (cpC c) 26)).alloc (.cells (pnC p) 38)).alloc (.cells (cpC zeroC) 26))) := Fm.cpz w c p
  clear hc hp h5 h6 hN
  go_enter Tryz.func22, Tryz.ntmps22
  go_wp2_with (first
    | (refine gen_world (((w.alloc (.cells (cpC c) 26)).alloc (.cells (pnC p) 38)).alloc (.cells (cpC zeroC) 26)) (Fm w [(w.heap.size, cpC c, 26), (w.heap.size + 1, pnC p, 38), (w.heap.size + 2, cpC zeroC, 26)]) hF.out ?_; intro y0 K0; have d25 := BoxC.fPh (K0.out.get 0 _ _ _ rfl); rw [hph.out] at d25; have dI := BoxP.fDI (K0.out.get 1 _ _ _ rfl); rw [hdi.out] at dI; have o1 := BoxC.f (K0.out.get 0 _ _ _ rfl) 23 _ rfl; have z1 := frozen_heap (K0.out.get 0 _ _ _ rfl) 23; have S1 : Hid (Fm w [(w.heap.size, cpC { c with Op := 0 }, 26), (w.heap.size + 1, pnC p, 38), (w.heap.size + 2, cpC zeroC, 26)] (y0.setCell ⟨w.heap.size, 23, none⟩ (.int .u8 0))) := K0.out.setCell 0 _ _ _ _ rfl 23 _ (rfl))
    | (refine gen_world (y0.setCell ⟨w.heap.size, 23, none⟩ (.int .u8 0)) (Fm w [(w.heap.size, cpC { c with Op := 0 }, 26), (w.heap.size + 1, pnC p, 38), (w.heap.size + 2, cpC zeroC, 26)]) S1.out ?_; intro y1 K1; have dI := BoxP.fDI (K1.out.get 1 _ _ _ rfl); rw [hdi.out] at dI; have o2 := BoxC.f (K1.out.get 0 _ _ _ rfl) 24 _ rfl; have z2 := frozen_heap (K1.out.get 0 _ _ _ rfl) 24; have S2 : Hid (Fm w [(w.heap.size, cpC N, 26), (w.heap.size + 1, pnC p, 38), (w.heap.size + 2, cpC zeroC, 26)] (y1.setCell ⟨w.heap.size, 24, none⟩ (.int .u8 0))) := K1.out.setCell 0 _ _ _ _ rfl 24 _ (hset.out))
    | (refine gen_world (y1.setCell ⟨w.heap.size, 24, none⟩ (.int .u8 0)) (Fm w [(w.heap.size, cpC N, 26), (w.heap.size + 1, pnC p, 38), (w.heap.size + 2, cpC zeroC, 26)]) S2.out ?_; intro y2 K2; have dI := BoxP.fDI (K2.out.get 1 _ _ _ rfl); rw [hdi.out] at dI; have o3 := BoxC.f (K2.out.get 0 _ _ _ rfl) 25 _ rfl; have z3 := frozen_heap (K2.out.get 0 _ _ _ rfl) 25; have S3 : Hid (Fm w [(w.heap.size, cpC { N with Ph := 6 }, 26), (w.heap.size + 1, pnC p, 38), (w.heap.size + 2, cpC zeroC, 26)] (y2.setCell ⟨w.heap.size, 25, none⟩ (.int .u8 6))) := K2.out.setCell 0 _ _ _ _ rfl 25 _ (rfl))
    | (refine gen_world (y2.setCell ⟨w.heap.size, 25, none⟩ (.int .u8 6)) (Fm w [(w.heap.size, cpC { N with Ph := 6 }, 26), (w.heap.size + 1, pnC p, 38), (w.heap.size + 2, cpC zeroC, 26)]) S3.out ?_; intro y3 K3)
    | (refine at_storeC (w.heap.size + 2) zeroC { N with Ph := 6 } (K3.out.get 2 _ _ _ rfl) _ _ rfl rfl rfl rfl ?_; intro w2 hw2)
    | (refine at_loadC w.heap.size { N with Ph := 6 } (K3.out.get 0 _ _ _ rfl) _ rfl rfl rfl ?_)
    | (refine at_loadP (w.heap.size + 1) p (K3.out.get 1 _ _ _ rfl) _ rfl rfl rfl ?_)
    | (refine at_loadC w.heap.size N (K2.out.get 0 _ _ _ rfl) _ rfl rfl rfl ?_)
    | (refine at_loadP (w.heap.size + 1) p (K2.out.get 1 _ _ _ rfl) _ rfl rfl rfl ?_)
    | (refine at_loadC w.heap.size { c with Op := 0 } (K1.out.get 0 _ _ _ rfl) _ rfl rfl rfl ?_)
    | (refine at_loadP (w.heap.size + 1) p (K1.out.get 1 _ _ _ rfl) _ rfl rfl rfl ?_)
    | (refine at_loadC w.heap.size c (K0.out.get 0 _ _ _ rfl) _ rfl rfl rfl ?_)
    | (refine at_loadP (w.heap.size + 1) p (K0.out.get 1 _ _ _ rfl) _ rfl rfl rfl ?_))
  refine retC Tryz.results22 rfl hw2.out.1 rfl ⟨rfl, K3.out.low.trans (hw2.out.2.1 _ (by omega))⟩
theorem rload_0f (w : World) (c : Cp) (hc : c.wf) (p : Pn) (hp : p.wf) (h5 : c.Ph ≠ 5) (h6 : c.Ph ≠ 6) (N : Cp) (hN : ({ c with Op := 0, B := 0 } : Cp) = N) (hdi : p.DI = false) : Calls Tryz.prog 22 #[.agg (cpC c), .agg (pnC p)] w fun e w' => e = .returned (.agg (cpC { N with Ph := 4, Op := 0 })) ∧ Below w.heap.size w w' := by
  obtain ⟨ph, hph⟩ : ∃ x : Int, (c.Ph : Int) = x := ⟨_, rfl⟩
  have q5 : (ph == 5) = false := by simp; omega
  have q6 : (ph == 6) = false := by simp; omega
  replace hph : Hid _ := hph
  have hset : Hid ((cpC { c with Op := 0 }).setIfInBounds 24 (.int .u8 0) = cpC N) := (by rw [← hN]; rfl : (cpC { c with Op := 0 }).setIfInBounds 24 (.int .u8 0) = cpC N)
  replace hdi : Hid _ := hdi
  have zz := zeroVC
  have hF : Hid (Fm w [(w.heap.size, cpC c, 26), (w.heap.size + 1, pnC p, 38), (w.heap.size + 2, cpC zeroC, 26)] (((w.alloc (.cells (cpC c) 26)).alloc (.cells (pnC p) 38)).alloc (.cells (cpC zeroC) 26))) := Fm.cpz w c p
  clear hc hp h5 h6 hN
  go_enter Tryz.func22, Tryz.ntmps22
  go_wp2_with (first
    | (refine gen_world (((w.alloc (.cells (cpC c) 26)).alloc (.cells (pnC p) 38)).alloc (.cells (cpC zeroC) 26)) (Fm w [(w.heap.size, cpC c, 26), (w.heap.size + 1, pnC p, 38), (w.heap.size + 2, cpC zeroC, 26)]) hF.out ?_; intro y0 K0; have d25 := BoxC.fPh (K0.out.get 0 _ _ _ rfl); rw [hph.out] at d25; have dI := BoxP.fDI (K0.out.get 1 _ _ _ rfl); rw [hdi.out] at dI; have o1 := BoxC.f (K0.out.get 0 _ _ _ rfl) 23 _ rfl; have z1 := frozen_heap (K0.out.get 0 _ _ _ rfl) 23; have S1 : Hid (Fm w [(w.heap.size, cpC { c with Op := 0 }, 26), (w.heap.size + 1, pnC p, 38), (w.heap.size + 2, cpC zeroC, 26)] (y0.setCell ⟨w.heap.size, 23, none⟩ (.int .u8 0))) := K0.out.setCell 0 _ _ _ _ rfl 23 _ (rfl))
    | (refine gen_world (y0.setCell ⟨w.heap.size, 23, none⟩ (.int .u8 0)) (Fm w [(w.heap.size, cpC { c with Op := 0 }, 26), (w.heap.size + 1, pnC p, 38), (w.heap.size + 2, cpC zeroC, 26)]) S1.out ?_; intro y1 K1; have dI := BoxP.fDI (K1.out.get 1 _ _ _ rfl); rw [hdi.out] at dI; have o2 := BoxC.f (K1.out.get 0 _ _ _ rfl) 24 _ rfl; have z2 := frozen_heap (K1.out.get 0 _ _ _ rfl) 24; have S2 : Hid (Fm w [(w.heap.size, cpC N, 26), (w.heap.size + 1, pnC p, 38), (w.heap.size + 2, cpC zeroC, 26)] (y1.setCell ⟨w.heap.size, 24, none⟩ (.int .u8 0))) := K1.out.setCell 0 _ _ _ _ rfl 24 _ (hset.out))
    | (refine gen_world (y1.setCell ⟨w.heap.size, 24, none⟩ (.int .u8 0)) (Fm w [(w.heap.size, cpC N, 26), (w.heap.size + 1, pnC p, 38), (w.heap.size + 2, cpC zeroC, 26)]) S2.out ?_; intro y2 K2; have dI := BoxP.fDI (K2.out.get 1 _ _ _ rfl); rw [hdi.out] at dI; have o3 := BoxC.f (K2.out.get 0 _ _ _ rfl) 25 _ rfl; have z3 := frozen_heap (K2.out.get 0 _ _ _ rfl) 25; have S3 : Hid (Fm w [(w.heap.size, cpC { N with Ph := 4 }, 26), (w.heap.size + 1, pnC p, 38), (w.heap.size + 2, cpC zeroC, 26)] (y2.setCell ⟨w.heap.size, 25, none⟩ (.int .u8 4))) := K2.out.setCell 0 _ _ _ _ rfl 25 _ (rfl))
    | (refine gen_world (y2.setCell ⟨w.heap.size, 25, none⟩ (.int .u8 4)) (Fm w [(w.heap.size, cpC { N with Ph := 4 }, 26), (w.heap.size + 1, pnC p, 38), (w.heap.size + 2, cpC zeroC, 26)]) S3.out ?_; intro y3 K3; have o4 := BoxC.f (K3.out.get 0 _ _ _ rfl) 23 _ rfl; have z4 := frozen_heap (K3.out.get 0 _ _ _ rfl) 23; have S4 : Hid (Fm w [(w.heap.size, cpC { N with Ph := 4, Op := 0 }, 26), (w.heap.size + 1, pnC p, 38), (w.heap.size + 2, cpC zeroC, 26)] (y3.setCell ⟨w.heap.size, 23, none⟩ (.int .u8 0))) := K3.out.setCell 0 _ _ _ _ rfl 23 _ (rfl))
    | (refine gen_world (y3.setCell ⟨w.heap.size, 23, none⟩ (.int .u8 0)) (Fm w [(w.heap.size, cpC { N with Ph := 4, Op := 0 }, 26), (w.heap.size + 1, pnC p, 38), (w.heap.size + 2, cpC zeroC, 26)]) S4.out ?_; intro y4 K4)
    | (refine at_storeC (w.heap.size + 2) zeroC { N with Ph := 4, Op := 0 } (K4.out.get 2 _ _ _ rfl) _ _ rfl rfl rfl rfl ?_; intro w2 hw2)
    | (refine at_loadC w.heap.size { N with Ph := 4, Op := 0 } (K4.out.get 0 _ _ _ rfl) _ rfl rfl rfl ?_)
    | (refine at_loadP (w.heap.size + 1) p (K4.out.get 1 _ _ _ rfl) _ rfl rfl rfl ?_)
    | (refine at_loadC w.heap.size { N with Ph := 4 } (K3.out.get 0 _ _ _ rfl) _ rfl rfl rfl ?_)
    | (refine at_loadP (w.heap.size + 1) p (K3.out.get 1 _ _ _ rfl) _ rfl rfl rfl ?_)
    | (refine at_loadC w.heap.size N (K2.out.get 0 _ _ _ rfl) _ rfl rfl rfl ?_)
    | (refine at_loadP (w.heap.size + 1) p (K2.out.get 1 _ _ _ rfl) _ rfl rfl rfl ?_)
    | (refine at_loadC w.heap.size { c with Op := 0 } (K1.out.get 0 _ _ _ rfl) _ rfl rfl rfl ?_)
    | (refine at_loadP (w.heap.size + 1) p (K1.out.get 1 _ _ _ rfl) _ rfl rfl rfl ?_)
    | (refine at_loadC w.heap.size c (K0.out.get 0 _ _ _ rfl) _ rfl rfl rfl ?_)
    | (refine at_loadP (w.heap.size + 1) p (K0.out.get 1 _ _ _ rfl) _ rfl rfl rfl ?_))
  refine retC Tryz.results22 rfl hw2.out.1 rfl ⟨rfl, K4.out.low.trans (hw2.out.2.1 _ (by omega))⟩
theorem rload_any (w : World) (c : Cp) (hc : c.wf) (p : Pn) (hp : p.wf) : Calls Tryz.prog 22 #[.agg (cpC c), .agg (pnC p)] w fun e w' => e = .returned (.agg (cpC (loadM c p))) ∧ Below w.heap.size w w' := by
  unfold loadM
  by_cases h5 : c.Ph = 5
  · rw [if_pos h5]
    rcases hd : p.DI with _ | _
    · exact rload_5f w c hc p hp h5 _ rfl hd
    · exact rload_5t w c hc p hp h5 _ rfl hd
  · rw [if_neg h5]
    by_cases h6 : c.Ph = 6
    · rw [if_pos h6]
      rcases hd : p.DI with _ | _
      · exact rload_6f w c hc p hp h6 _ rfl hd
      · exact rload_6t w c hc p hp h6 _ rfl hd
    · rw [if_neg h6]
      rcases hd : p.DI with _ | _
      · exact rload_0f w c hc p hp h5 h6 _ rfl hd
      · exact rload_0t w c hc p hp h5 h6 _ rfl hd
theorem rStep_no (w : World) (c : Cp) (hc : c.wf) (p : Pn) (hp : p.wf) (hch : checkB c = false) : Calls Tryz.prog 12 #[.agg (cpC c), .agg (pnC p)] w fun e w' => e = .returned (.agg (cpC zeroC)) ∧ Below w.heap.size w w' := by
  have hk := fun v => rcheck_any v c hc
  have ek : checkM c = 40 := by unfold checkM; rw [hch]; rfl
  rw [ek] at hk
  clear ek
  obtain ⟨m, hmo⟩ : ∃ x : Int, (p.Mode : Int) = x := ⟨_, rfl⟩
  replace hmo : Hid _ := hmo
  have zz := zeroVC
  have hF : Hid (Fm w [(w.heap.size, cpC c, 26), (w.heap.size + 1, pnC p, 38), (w.heap.size + 2, cpC zeroC, 26)] (((w.alloc (.cells (cpC c) 26)).alloc (.cells (pnC p) 38)).alloc (.cells (cpC zeroC) 26))) := Fm.cpz w c p
  clear hc hp hch
  go_enter Tryz.func12, Tryz.ntmps12
  go_wp2_with (first
    | (refine gen_world (((w.alloc (.cells (cpC c) 26)).alloc (.cells (pnC p) 38)).alloc (.cells (cpC zeroC) 26)) (Fm w [(w.heap.size, cpC c, 26), (w.heap.size + 1, pnC p, 38), (w.heap.size + 2, cpC zeroC, 26)]) hF.out ?_; intro y0 K0)
    | (go_at_call 8; refine (hk _).mono ?_; rintro e y1 ⟨rfl, hb1⟩; have K1 : Hid (Fm w [(w.heap.size, cpC c, 26), (w.heap.size + 1, pnC p, 38), (w.heap.size + 2, cpC zeroC, 26)] y1) := K0.out.below hb1; have dM := BoxP.fMode (K1.out.get 1 _ _ _ rfl); rw [hmo.out] at dM)
    | (refine at_build0 rfl rfl _ rfl ?_)
    | (refine at_storeC (w.heap.size + 2) zeroC zeroC (K1.out.get 2 _ _ _ rfl) _ _ rfl rfl rfl rfl ?_; intro w2 hw2)
    | (refine at_loadC w.heap.size c (K1.out.get 0 _ _ _ rfl) _ rfl rfl rfl ?_)
    | (refine at_loadP (w.heap.size + 1) p (K1.out.get 1 _ _ _ rfl) _ rfl rfl rfl ?_)
    | (refine at_loadC w.heap.size c (K0.out.get 0 _ _ _ rfl) _ rfl rfl rfl ?_)
    | (refine at_loadP (w.heap.size + 1) p (K0.out.get 1 _ _ _ rfl) _ rfl rfl rfl ?_))
  refine retC Tryz.results12 rfl hw2.out.1 rfl ⟨rfl, K1.out.low.trans (hw2.out.2.1 _ (by omega))⟩
theorem rStep_big (w : World) (c : Cp) (hc : c.wf) (p : Pn) (hp : p.wf) (hch : checkB c = true) (h3 : 3 < p.Mode) : Calls Tryz.prog 12 #[.agg (cpC c), .agg (pnC p)] w fun e w' => e = .returned (.agg (cpC zeroC)) ∧ Below w.heap.size w w' := by
  have hk := fun v => rcheck_any v c hc
  have ek : checkM c = 0 := by unfold checkM; rw [hch]; rfl
  rw [ek] at hk
  clear ek
  obtain ⟨m, hmo⟩ : ∃ x : Int, (p.Mode : Int) = x := ⟨_, rfl⟩
  have r3 : decide ((3 : Int) < m) = true := by simp; omega
  replace hmo : Hid _ := hmo
  have zz := zeroVC
  have hF : Hid (Fm w [(w.heap.size, cpC c, 26), (w.heap.size + 1, pnC p, 38), (w.heap.size + 2, cpC zeroC, 26)] (((w.alloc (.cells (cpC c) 26)).alloc (.cells (pnC p) 38)).alloc (.cells (cpC zeroC) 26))) := Fm.cpz w c p
  clear hc hp hch h3
  go_enter Tryz.func12, Tryz.ntmps12
  go_wp2_with (first
    | (refine gen_world (((w.alloc (.cells (cpC c) 26)).alloc (.cells (pnC p) 38)).alloc (.cells (cpC zeroC) 26)) (Fm w [(w.heap.size, cpC c, 26), (w.heap.size + 1, pnC p, 38), (w.heap.size + 2, cpC zeroC, 26)]) hF.out ?_; intro y0 K0)
    | (go_at_call 8; refine (hk _).mono ?_; rintro e y1 ⟨rfl, hb1⟩; have K1 : Hid (Fm w [(w.heap.size, cpC c, 26), (w.heap.size + 1, pnC p, 38), (w.heap.size + 2, cpC zeroC, 26)] y1) := K0.out.below hb1; have dM := BoxP.fMode (K1.out.get 1 _ _ _ rfl); rw [hmo.out] at dM)
    | (refine at_build0 rfl rfl _ rfl ?_)
    | (refine at_storeC (w.heap.size + 2) zeroC zeroC (K1.out.get 2 _ _ _ rfl) _ _ rfl rfl rfl rfl ?_; intro w2 hw2)
    | (refine at_loadC w.heap.size c (K1.out.get 0 _ _ _ rfl) _ rfl rfl rfl ?_)
    | (refine at_loadP (w.heap.size + 1) p (K1.out.get 1 _ _ _ rfl) _ rfl rfl rfl ?_)
    | (refine at_loadC w.heap.size c (K0.out.get 0 _ _ _ rfl) _ rfl rfl rfl ?_)
    | (refine at_loadP (w.heap.size + 1) p (K0.out.get 1 _ _ _ rfl) _ rfl rfl rfl ?_))
  refine retC Tryz.results12 rfl hw2.out.1 rfl ⟨rfl, K1.out.low.trans (hw2.out.2.1 _ (by omega))⟩
theorem rStep_1 (w : World) (c : Cp) (hc : c.wf) (p : Pn) (hp : p.wf) (hch : checkB c = true) (h3 : p.Mode = 1) : Calls Tryz.prog 12 #[.agg (cpC c), .agg (pnC p)] w fun e w' => e = .returned (.agg (cpC c)) ∧ Below w.heap.size w w' := by
  have hk := fun v => rcheck_any v c hc
  have ek : checkM c = 0 := by unfold checkM; rw [hch]; rfl
  rw [ek] at hk
  clear ek
  have hmo : (p.Mode : Int) = 1 := by omega
  replace hmo : Hid _ := hmo
  have zz := zeroVC
  have hF : Hid (Fm w [(w.heap.size, cpC c, 26), (w.heap.size + 1, pnC p, 38), (w.heap.size + 2, cpC zeroC, 26)] (((w.alloc (.cells (cpC c) 26)).alloc (.cells (pnC p) 38)).alloc (.cells (cpC zeroC) 26))) := Fm.cpz w c p
  clear hc hp hch h3
  go_enter Tryz.func12, Tryz.ntmps12
  go_wp2_with (first
    | (refine gen_world (((w.alloc (.cells (cpC c) 26)).alloc (.cells (pnC p) 38)).alloc (.cells (cpC zeroC) 26)) (Fm w [(w.heap.size, cpC c, 26), (w.heap.size + 1, pnC p, 38), (w.heap.size + 2, cpC zeroC, 26)]) hF.out ?_; intro y0 K0)
    | (go_at_call 8; refine (hk _).mono ?_; rintro e y1 ⟨rfl, hb1⟩; have K1 : Hid (Fm w [(w.heap.size, cpC c, 26), (w.heap.size + 1, pnC p, 38), (w.heap.size + 2, cpC zeroC, 26)] y1) := K0.out.below hb1; have dM := BoxP.fMode (K1.out.get 1 _ _ _ rfl); rw [hmo.out] at dM)
    | (refine at_storeC (w.heap.size + 2) zeroC c (K1.out.get 2 _ _ _ rfl) _ _ rfl rfl rfl rfl ?_; intro w2 hw2)
    | (refine at_loadC w.heap.size c (K1.out.get 0 _ _ _ rfl) _ rfl rfl rfl ?_)
    | (refine at_loadP (w.heap.size + 1) p (K1.out.get 1 _ _ _ rfl) _ rfl rfl rfl ?_)
    | (refine at_loadC w.heap.size c (K0.out.get 0 _ _ _ rfl) _ rfl rfl rfl ?_)
    | (refine at_loadP (w.heap.size + 1) p (K0.out.get 1 _ _ _ rfl) _ rfl rfl rfl ?_))
  refine retC Tryz.results12 rfl hw2.out.1 rfl ⟨rfl, K1.out.low.trans (hw2.out.2.1 _ (by omega))⟩
theorem rStep_2 (w : World) (c : Cp) (hc : c.wf) (p : Pn) (hp : p.wf) (hch : checkB c = true) (h3 : p.Mode = 2) : Calls Tryz.prog 12 #[.agg (cpC c), .agg (pnC p)] w fun e w' => e = .returned (.agg (cpC { c with Op := 0, B := 0, Q := false, IE := true, Ph := 5 })) ∧ Below w.heap.size w w' := by
  have hk := fun v => rcheck_any v c hc
  have ek : checkM c = 0 := by unfold checkM; rw [hch]; rfl
  rw [ek] at hk
  clear ek
  have hmo : (p.Mode : Int) = 2 := by omega
  replace hmo : Hid _ := hmo
  have zz := zeroVC
  have hF : Hid (Fm w [(w.heap.size, cpC c, 26), (w.heap.size + 1, pnC p, 38), (w.heap.size + 2, cpC zeroC, 26)] (((w.alloc (.cells (cpC c) 26)).alloc (.cells (pnC p) 38)).alloc (.cells (cpC zeroC) 26))) := Fm.cpz w c p
  clear hc hp hch h3
  go_enter Tryz.func12, Tryz.ntmps12
  go_wp2_with (first
    | (refine gen_world (((w.alloc (.cells (cpC c) 26)).alloc (.cells (pnC p) 38)).alloc (.cells (cpC zeroC) 26)) (Fm w [(w.heap.size, cpC c, 26), (w.heap.size + 1, pnC p, 38), (w.heap.size + 2, cpC zeroC, 26)]) hF.out ?_; intro y0 K0)
    | (go_at_call 8; refine (hk _).mono ?_; rintro e y1 ⟨rfl, hb1⟩; have K1 : Hid (Fm w [(w.heap.size, cpC c, 26), (w.heap.size + 1, pnC p, 38), (w.heap.size + 2, cpC zeroC, 26)] y1) := K0.out.below hb1; have dM := BoxP.fMode (K1.out.get 1 _ _ _ rfl); rw [hmo.out] at dM; have o2 := BoxC.f (K1.out.get 0 _ _ _ rfl) 23 _ rfl; have z2 := frozen_heap (K1.out.get 0 _ _ _ rfl) 23; have S2 : Hid (Fm w [(w.heap.size, cpC { c with Op := 0 }, 26), (w.heap.size + 1, pnC p, 38), (w.heap.size + 2, cpC zeroC, 26)] (y1.setCell ⟨w.heap.size, 23, none⟩ (.int .u8 0))) := K1.out.setCell 0 _ _ _ _ rfl 23 _ (rfl))
    | (refine gen_world (y1.setCell ⟨w.heap.size, 23, none⟩ (.int .u8 0)) (Fm w [(w.heap.size, cpC { c with Op := 0 }, 26), (w.heap.size + 1, pnC p, 38), (w.heap.size + 2, cpC zeroC, 26)]) S2.out ?_; intro y2 K2; have o3 := BoxC.f (K2.out.get 0 _ _ _ rfl) 24 _ rfl; have z3 := frozen_heap (K2.out.get 0 _ _ _ rfl) 24; have S3 : Hid (Fm w [(w.heap.size, cpC { c with Op := 0, B := 0 }, 26), (w.heap.size + 1, pnC p, 38), (w.heap.size + 2, cpC zeroC, 26)] (y2.setCell ⟨w.heap.size, 24, none⟩ (.int .u8 0))) := K2.out.setCell 0 _ _ _ _ rfl 24 _ (rfl))
    | (refine gen_world (y2.setCell ⟨w.heap.size, 24, none⟩ (.int .u8 0)) (Fm w [(w.heap.size, cpC { c with Op := 0, B := 0 }, 26), (w.heap.size + 1, pnC p, 38), (w.heap.size + 2, cpC zeroC, 26)]) S3.out ?_; intro y3 K3; have o4 := BoxC.f (K3.out.get 0 _ _ _ rfl) 22 _ rfl; have z4 := frozen_heap (K3.out.get 0 _ _ _ rfl) 22; have S4 : Hid (Fm w [(w.heap.size, cpC { c with Op := 0, B := 0, Q := false }, 26), (w.heap.size + 1, pnC p, 38), (w.heap.size + 2, cpC zeroC, 26)] (y3.setCell ⟨w.heap.size, 22, none⟩ (.bool false))) := K3.out.setCell 0 _ _ _ _ rfl 22 _ (rfl))
    | (refine gen_world (y3.setCell ⟨w.heap.size, 22, none⟩ (.bool false)) (Fm w [(w.heap.size, cpC { c with Op := 0, B := 0, Q := false }, 26), (w.heap.size + 1, pnC p, 38), (w.heap.size + 2, cpC zeroC, 26)]) S4.out ?_; intro y4 K4; have o5 := BoxC.f (K4.out.get 0 _ _ _ rfl) 21 _ rfl; have z5 := frozen_heap (K4.out.get 0 _ _ _ rfl) 21; have S5 : Hid (Fm w [(w.heap.size, cpC { c with Op := 0, B := 0, Q := false, IE := true }, 26), (w.heap.size + 1, pnC p, 38), (w.heap.size + 2, cpC zeroC, 26)] (y4.setCell ⟨w.heap.size, 21, none⟩ (.bool true))) := K4.out.setCell 0 _ _ _ _ rfl 21 _ (rfl))
    | (refine gen_world (y4.setCell ⟨w.heap.size, 21, none⟩ (.bool true)) (Fm w [(w.heap.size, cpC { c with Op := 0, B := 0, Q := false, IE := true }, 26), (w.heap.size + 1, pnC p, 38), (w.heap.size + 2, cpC zeroC, 26)]) S5.out ?_; intro y5 K5; have o6 := BoxC.f (K5.out.get 0 _ _ _ rfl) 25 _ rfl; have z6 := frozen_heap (K5.out.get 0 _ _ _ rfl) 25; have S6 : Hid (Fm w [(w.heap.size, cpC { c with Op := 0, B := 0, Q := false, IE := true, Ph := 5 }, 26), (w.heap.size + 1, pnC p, 38), (w.heap.size + 2, cpC zeroC, 26)] (y5.setCell ⟨w.heap.size, 25, none⟩ (.int .u8 5))) := K5.out.setCell 0 _ _ _ _ rfl 25 _ (rfl))
    | (refine gen_world (y5.setCell ⟨w.heap.size, 25, none⟩ (.int .u8 5)) (Fm w [(w.heap.size, cpC { c with Op := 0, B := 0, Q := false, IE := true, Ph := 5 }, 26), (w.heap.size + 1, pnC p, 38), (w.heap.size + 2, cpC zeroC, 26)]) S6.out ?_; intro y6 K6)
    | (refine at_storeC (w.heap.size + 2) zeroC { c with Op := 0, B := 0, Q := false, IE := true, Ph := 5 } (K6.out.get 2 _ _ _ rfl) _ _ rfl rfl rfl rfl ?_; intro w2 hw2)
    | (refine at_loadC w.heap.size { c with Op := 0, B := 0, Q := false, IE := true, Ph := 5 } (K6.out.get 0 _ _ _ rfl) _ rfl rfl rfl ?_)
    | (refine at_loadP (w.heap.size + 1) p (K6.out.get 1 _ _ _ rfl) _ rfl rfl rfl ?_)
    | (refine at_loadC w.heap.size { c with Op := 0, B := 0, Q := false, IE := true } (K5.out.get 0 _ _ _ rfl) _ rfl rfl rfl ?_)
    | (refine at_loadP (w.heap.size + 1) p (K5.out.get 1 _ _ _ rfl) _ rfl rfl rfl ?_)
    | (refine at_loadC w.heap.size { c with Op := 0, B := 0, Q := false } (K4.out.get 0 _ _ _ rfl) _ rfl rfl rfl ?_)
    | (refine at_loadP (w.heap.size + 1) p (K4.out.get 1 _ _ _ rfl) _ rfl rfl rfl ?_)
    | (refine at_loadC w.heap.size { c with Op := 0, B := 0 } (K3.out.get 0 _ _ _ rfl) _ rfl rfl rfl ?_)
    | (refine at_loadP (w.heap.size + 1) p (K3.out.get 1 _ _ _ rfl) _ rfl rfl rfl ?_)
    | (refine at_loadC w.heap.size { c with Op := 0 } (K2.out.get 0 _ _ _ rfl) _ rfl rfl rfl ?_)
    | (refine at_loadP (w.heap.size + 1) p (K2.out.get 1 _ _ _ rfl) _ rfl rfl rfl ?_)
    | (refine at_loadC w.heap.size c (K1.out.get 0 _ _ _ rfl) _ rfl rfl rfl ?_)
    | (refine at_loadP (w.heap.size + 1) p (K1.out.get 1 _ _ _ rfl) _ rfl rfl rfl ?_)
    | (refine at_loadC w.heap.size c (K0.out.get 0 _ _ _ rfl) _ rfl rfl rfl ?_)
    | (refine at_loadP (w.heap.size + 1) p (K0.out.get 1 _ _ _ rfl) _ rfl rfl rfl ?_))
  refine retC Tryz.results12 rfl hw2.out.1 rfl ⟨rfl, K6.out.low.trans (hw2.out.2.1 _ (by omega))⟩
theorem rStep_3 (w : World) (c : Cp) (hc : c.wf) (p : Pn) (hp : p.wf) (hch : checkB c = true) (h3 : p.Mode = 3) (N : Cp) (hN : loadM c p = N) : Calls Tryz.prog 12 #[.agg (cpC c), .agg (pnC p)] w fun e w' => e = .returned (.agg (cpC N)) ∧ Below w.heap.size w w' := by
  have hk := fun v => rcheck_any v c hc
  have ek : checkM c = 0 := by unfold checkM; rw [hch]; rfl
  rw [ek] at hk
  clear ek
  have hmo : (p.Mode : Int) = 3 := by omega
  replace hmo : Hid _ := hmo
  have hg := fun v => rload_any v c hc p hp
  rw [hN] at hg
  have zz := zeroVC
  have hF : Hid (Fm w [(w.heap.size, cpC c, 26), (w.heap.size + 1, pnC p, 38), (w.heap.size + 2, cpC zeroC, 26)] (((w.alloc (.cells (cpC c) 26)).alloc (.cells (pnC p) 38)).alloc (.cells (cpC zeroC) 26))) := Fm.cpz w c p
  clear hc hp hch h3 hN
  go_enter Tryz.func12, Tryz.ntmps12
  go_wp2_with (first
    | (refine gen_world (((w.alloc (.cells (cpC c) 26)).alloc (.cells (pnC p) 38)).alloc (.cells (cpC zeroC) 26)) (Fm w [(w.heap.size, cpC c, 26), (w.heap.size + 1, pnC p, 38), (w.heap.size + 2, cpC zeroC, 26)]) hF.out ?_; intro y0 K0)
    | (go_at_call 22; refine (hg _).mono ?_; rintro e y2 ⟨rfl, hb2⟩; have K2 : Hid (Fm w [(w.heap.size, cpC c, 26), (w.heap.size + 1, pnC p, 38), (w.heap.size + 2, cpC zeroC, 26)] y2) := K1.out.below hb2)
    | (go_at_call 8; refine (hk _).mono ?_; rintro e y1 ⟨rfl, hb1⟩; have K1 : Hid (Fm w [(w.heap.size, cpC c, 26), (w.heap.size + 1, pnC p, 38), (w.heap.size + 2, cpC zeroC, 26)] y1) := K0.out.below hb1; have dM := BoxP.fMode (K1.out.get 1 _ _ _ rfl); rw [hmo.out] at dM)
    | (refine at_storeC (w.heap.size + 2) zeroC N (K2.out.get 2 _ _ _ rfl) _ _ rfl rfl rfl rfl ?_; intro w2 hw2)
    | (refine at_loadC w.heap.size c (K2.out.get 0 _ _ _ rfl) _ rfl rfl rfl ?_)
    | (refine at_loadP (w.heap.size + 1) p (K2.out.get 1 _ _ _ rfl) _ rfl rfl rfl ?_)
    | (refine at_loadC w.heap.size c (K1.out.get 0 _ _ _ rfl) _ rfl rfl rfl ?_)
    | (refine at_loadP (w.heap.size + 1) p (K1.out.get 1 _ _ _ rfl) _ rfl rfl rfl ?_)
    | (refine at_loadC w.heap.size c (K0.out.get 0 _ _ _ rfl) _ rfl rfl rfl ?_)
    | (refine at_loadP (w.heap.size + 1) p (K0.out.get 1 _ _ _ rfl) _ rfl rfl rfl ?_))
  refine retC Tryz.results12 rfl hw2.out.1 rfl ⟨rfl, K2.out.low.trans (hw2.out.2.1 _ (by omega))⟩
theorem rStep_0 (w : World) (c : Cp) (hc : c.wf) (p : Pn) (hp : p.wf) (hch : checkB c = true) (h3 : p.Mode = 0) (N : Cp) (hN : goOnM c p = N) : Calls Tryz.prog 12 #[.agg (cpC c), .agg (pnC p)] w fun e w' => e = .returned (.agg (cpC N)) ∧ Below w.heap.size w w' := by
  have hk := fun v => rcheck_any v c hc
  have ek : checkM c = 0 := by unfold checkM; rw [hch]; rfl
  rw [ek] at hk
  clear ek
  have hmo : (p.Mode : Int) = 0 := by omega
  replace hmo : Hid _ := hmo
  have hg := fun v => rgoOn_any v c hc p hp hch
  rw [hN] at hg
  have zz := zeroVC
  have hF : Hid (Fm w [(w.heap.size, cpC c, 26), (w.heap.size + 1, pnC p, 38), (w.heap.size + 2, cpC zeroC, 26)] (((w.alloc (.cells (cpC c) 26)).alloc (.cells (pnC p) 38)).alloc (.cells (cpC zeroC) 26))) := Fm.cpz w c p
  clear hc hp hch h3 hN
  go_enter Tryz.func12, Tryz.ntmps12
  go_wp2_with (first
    | (refine gen_world (((w.alloc (.cells (cpC c) 26)).alloc (.cells (pnC p) 38)).alloc (.cells (cpC zeroC) 26)) (Fm w [(w.heap.size, cpC c, 26), (w.heap.size + 1, pnC p, 38), (w.heap.size + 2, cpC zeroC, 26)]) hF.out ?_; intro y0 K0)
    | (go_at_call 23; refine (hg _).mono ?_; rintro e y2 ⟨rfl, hb2⟩; have K2 : Hid (Fm w [(w.heap.size, cpC c, 26), (w.heap.size + 1, pnC p, 38), (w.heap.size + 2, cpC zeroC, 26)] y2) := K1.out.below hb2)
    | (go_at_call 8; refine (hk _).mono ?_; rintro e y1 ⟨rfl, hb1⟩; have K1 : Hid (Fm w [(w.heap.size, cpC c, 26), (w.heap.size + 1, pnC p, 38), (w.heap.size + 2, cpC zeroC, 26)] y1) := K0.out.below hb1; have dM := BoxP.fMode (K1.out.get 1 _ _ _ rfl); rw [hmo.out] at dM)
    | (refine at_storeC (w.heap.size + 2) zeroC N (K2.out.get 2 _ _ _ rfl) _ _ rfl rfl rfl rfl ?_; intro w2 hw2)
    | (refine at_loadC w.heap.size c (K2.out.get 0 _ _ _ rfl) _ rfl rfl rfl ?_)
    | (refine at_loadP (w.heap.size + 1) p (K2.out.get 1 _ _ _ rfl) _ rfl rfl rfl ?_)
    | (refine at_loadC w.heap.size c (K1.out.get 0 _ _ _ rfl) _ rfl rfl rfl ?_)
    | (refine at_loadP (w.heap.size + 1) p (K1.out.get 1 _ _ _ rfl) _ rfl rfl rfl ?_)
    | (refine at_loadC w.heap.size c (K0.out.get 0 _ _ _ rfl) _ rfl rfl rfl ?_)
    | (refine at_loadP (w.heap.size + 1) p (K0.out.get 1 _ _ _ rfl) _ rfl rfl rfl ?_))
  refine retC Tryz.results12 rfl hw2.out.1 rfl ⟨rfl, K2.out.low.trans (hw2.out.2.1 _ (by omega))⟩
theorem rstep_any (w : World) (c : Cp) (hc : c.wf) (p : Pn) (hp : p.wf) : Calls Tryz.prog 12 #[.agg (cpC c), .agg (pnC p)] w fun e w' => e = .returned (.agg (cpC (stepM c p))) ∧ Below w.heap.size w w' := by
  unfold stepM
  rcases hch : checkB c with _ | _
  · exact rStep_no w c hc p hp hch
  rw [if_pos rfl]
  by_cases m0 : p.Mode = 0
  · rw [if_pos m0]; exact rStep_0 w c hc p hp hch m0 _ rfl
  rw [if_neg m0]
  by_cases m1 : p.Mode = 1
  · rw [if_pos m1]; exact rStep_1 w c hc p hp hch m1
  rw [if_neg m1]
  by_cases m2 : p.Mode = 2
  · rw [if_pos m2]; exact rStep_2 w c hc p hp hch m2
  rw [if_neg m2]
  by_cases m3 : p.Mode = 3
  · rw [if_pos m3]; exact rStep_3 w c hc p hp hch m3 _ rfl
  · rw [if_neg m3]; exact rStep_big w c hc p hp hch (by omega)
theorem rstart_any (w : World) : Calls Tryz.prog 6 #[] w fun e w' => e = .returned (.agg (cpC startM)) ∧ Below w.heap.size w w' := by
  have zz := zeroVC
  have hF : Hid (Fm w [(w.heap.size, cpC zeroC, 26)] (w.alloc (.cells (cpC zeroC) 26))) := Fm.one1 w zeroC
  have hb : Hid (Tryz.prog.built 26 [(6, .bool true), (10, .int .u8 5)] = some (cpC startM)) := (by kernel_rfl : Tryz.prog.built 26 [(6, .bool true), (10, .int .u8 5)] = some (cpC startM))
  go_enter Tryz.func6, Tryz.ntmps6
  go_wp2_with (first
    | (refine gen_world (w.alloc (.cells (cpC zeroC) 26)) (Fm w [(w.heap.size, cpC zeroC, 26)]) hF.out ?_; intro y K0)
    | (refine wpList_buildTo rfl 26 _ rfl _ rfl (cpC startM) hb.out ?_)
    | (refine at_storeC w.heap.size zeroC startM (K0.out.get 0 _ _ _ rfl) _ _ rfl rfl rfl rfl ?_; intro w2 hw2))
  refine retC Tryz.results6 rfl hw2.out.1 rfl ⟨rfl, K0.out.low.trans (hw2.out.2.1 _ (by omega))⟩
end Go.Proofs.YtbeeefekndcgnaaGreatDoor

namespace Go.Proofs.YtbeeefekndcgnaaGreatDoor
open Go Go.RowKit
set_option linter.unusedVariables false
set_option maxRecDepth 20000

theorem Fm.pre {w : World} {l l' : List (Nat × Array Value × TypeId)} {y : World} (h : Fm w (l ++ l') y) : Fm w l y := by
  have key : ∀ (i b : Nat) (cs : Array Value) (t : TypeId), l[i]? = some (b, cs, t) → (l ++ l')[i]? = some (b, cs, t) := fun i b cs t e => by
    rw [List.getElem?_append_left (List.getElem?_eq_some_iff.1 e).1]; exact e
  exact ⟨fun i b cs t e => h.get i b cs t (key i b cs t e), fun i b cs t e => h.ge i b cs t (key i b cs t e), fun i j b c1 c2 t1 t2 e1 e2 => h.ne i j b c1 c2 t1 t2 (key _ _ _ _ e1) (key _ _ _ _ e2), h.low⟩
theorem range_keep {w y : World} {g o : Nat} {cs : List Value} (h : w.rangeAt g o cs) (hb : Below w.heap.size w y) : y.rangeAt g o cs := fun j v hv => by
  have k := h j v hv
  have hl : g < w.heap.size := World.block_lt_of_cell? w ⟨g, o + j, none⟩ k
  exact (World.cell?_of_block (w := w) (a := ⟨g, o + j, none⟩) (hb.block g hl)).trans k
/-- Pins in a row. -/
def PinsIn (w : World) (a : Option Addr) (len : Nat) : Prop := ∀ k, k < len → ∃ (g off : Nat) (p : Pn), a = some ⟨g, off, none⟩ ∧ p.wf ∧ w.rangeAt g (off + k * 9) (pnC p).toList
theorem quiet_loadPm {C : World → Prop} {o : Oper} {a : Act} (g i : Nat) (p : Pn) (h : ∀ w, C w → w.rangeAt g i (pnC p).toList) (x : Operand) (ho : o.op = .load 38 x) (hx : a.eval x = .pointer (some ⟨g, i, none⟩)) : ∀ w, C w → o.quietAt Tryz.prog a C w (.agg (pnC p)) := fun w hw => by
  have hr := run_loadVar_mid (P := Tryz.prog) w g i 38 (pnC p).toList _ (h w hw) Tryz.underlying38 rfl infoP
  rw [Array.toArray_toList] at hr
  unfold Oper.quietAt execOp
  simp only [ho, hx, Instr.loadAt, Instr.sureAddr, Sem.run_bind, Sem.run_pure, Result.andThen_ok, hr]
  exact ⟨rfl, rfl⟩
theorem yieldsPm {ops : Array Oper} {S : World → Prop} {o : Oper} {a : Act} (g i : Nat) (p : Pn) (h : ∀ w, S w → w.rangeAt g i (pnC p).toList) (x : Operand) (hw : Region.wanted o (yielded ops a.tmps) = true) (ho : o.op = .load 38 x) (hx : a.eval x = .pointer (some ⟨g, i, none⟩)) : YieldsIf Tryz.prog ops S o (.agg (pnC p)) a := by
  have := yieldsIf_load_mid (P := Tryz.prog) (S := S) hw 38 x ho g i hx (pnC p).toList _ h Tryz.underlying38 rfl infoP
  rwa [Array.toArray_toList] at this
theorem quiet_neC {C : World → Prop} {o : Oper} {a : Act} (A B : Cp) (h : cpC A = cpC B) (x y : Operand) (t : TypeId) (ho : o.op = .binOp .neq 26 x y t) (hx : a.eval x = .agg (cpC A)) (hy : a.eval y = .agg (cpC B)) : ∀ w, C w → o.quietAt Tryz.prog a C w (.bool false) := fun w hw => by
  unfold Oper.quietAt execOp
  simp only [ho, hx, hy, h, Sem.run_bind, run_eqGuard_agg w .neq 26 x y (cpC B) (cpC B) guardC, run_neq_struct w 26 (cpC B) (cpC B), eqC, Result.andThen_ok, Sem.run_pure]
  exact ⟨rfl, rfl⟩
theorem quiet_neD {C : World → Prop} {o : Oper} {a : Act} (A B : Dv) (h : dvC A = dvC B) (x y : Operand) (t : TypeId) (ho : o.op = .binOp .neq 33 x y t) (hx : a.eval x = .agg (dvC A)) (hy : a.eval y = .agg (dvC B)) : ∀ w, C w → o.quietAt Tryz.prog a C w (.bool false) := fun w hw => by
  unfold Oper.quietAt execOp
  simp only [ho, hx, hy, h, Sem.run_bind, run_eqGuard_agg w .neq 33 x y (dvC B) (dvC B) guardD, run_neq_struct w 33 (dvC B) (dvC B), eqD, Result.andThen_ok, Sem.run_pure]
  exact ⟨rfl, rfl⟩
theorem idxP {P : Program} {t e : TypeId} {s g off len cap : Nat} (ht : P.underlying t = some (.slice e)) (hs : (P.info? e).map (·.size) = some s) (k : IntKind) (i : Nat) (w : World) (h : i < len) :
   (Instr.indexAt t (.slice (some ⟨g, off, none⟩) len cap) (.int k (i : Int))).run P w = .ok (.pointer (some ⟨g, off + i * s, none⟩)) w := by
  have e2 : P.elem t = e := by unfold Program.elem; rw [ht]
  rw [run_indexAt_slice _ _ _ _ _ _ _ (by rw [e2, ht]), e2, if_pos ⟨by omega, by omega⟩]
  obtain ⟨inf, hi, rfl⟩ := Option.map_eq_some_iff.1 hs
  have e3 : P.cellsOf e = inf.size := by unfold Program.cellsOf; rw [hi]; rfl
  rw [run_sizeOf _ hi, e3]
  have e4 : (⟨g, off, none⟩ : Addr).add (i * inf.size) = ⟨g, off + i * inf.size, none⟩ := by
    unfold Addr.add
    split
    · rename_i h0; rw [h0]; rfl
    · rfl
  simp [e4]
/-- The walk stands here. -/
def Stop (p : Prop) : Prop := p
theorem stopAt {p : Prop} (h : Stop p) : p := h
theorem Stop.go {p : Prop} (h : p) : Stop p := h
end Go.Proofs.YtbeeefekndcgnaaGreatDoor
