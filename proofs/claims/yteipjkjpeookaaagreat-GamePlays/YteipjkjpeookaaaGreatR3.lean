/- The document's own: others, its plain orders. -/
import Derived.Test.YteipjkjpeookaaaGreatJ28
namespace Go.Proofs.YteipjkjpeookaaaGreat
open Go Go.RowKit Go.Shelf
set_option linter.unusedVariables false
set_option maxHeartbeats 1000000
set_option maxRecDepth 100000

theorem rothers_timer (w : World) (B : Nat) (C D : Array Value) (g : Gm) (f : Fo) (d : Fd) (hG : Hid (GO B w C g)) (hB : Hid (B ≤ w.heap.size)) (hf : Hid (FL w D f)) (hd : Hid d.Ok) (x y n b a : Nat) (hx : x < 16) (hy : y < 16) (hb : b < 256) (ha : a < 65536) :
    Calls Tryz.prog 70 #[.agg C, .agg #[.int .u8 23, .int .u8 (x : Int), .int .u8 (y : Int), .int .u8 (n : Int), .int .u8 (b : Int), .int .u16 (a : Int)], .agg D, .agg (dCs d)] w (RdE B w (doG g ⟨23, x, y, n, b, a⟩ f d)) := by
  obtain ⟨ZC, p, q, gC, gD, hZ, hZ', hp, hq, lp, lq, fV, ixx, ixy, ixi, iyi, ibi, iai, ipi, iqi⟩ := pre_do w B C D g f x y b a hG hf hx hy hb ha
  obtain ⟨OC, hOC⟩ := hid_ex #[.int .u8 23, .int .u8 (x : Int), .int .u8 (y : Int), .int .u8 (n : Int), .int .u8 (b : Int), .int .u16 (a : Int)]
  rw [← hOC.out]
  obtain ⟨R, hR⟩ : ∃ z, g.de.toNat = z := ⟨_, rfl⟩
  have hR' : Hid (g.de.toNat = R) := hR
  have f19 : Hid (C[19]? = some (.int .u8 (R : Int))) := by rw [← hR]; exact hG.out.rest.2.2.1
  obtain ⟨C1, hC1⟩ : ∃ z, Hid (z = C.setIfInBounds x (.int .u8 (R : Int))) := ⟨_, (rfl : C.setIfInBounds x (.int .u8 (R : Int)) = _)⟩
  have hS1 : Hid (C1.size = 23) := by show _ = _; rw [hC1.out, Array.size_setIfInBounds]; exact gC.out
  have fI : Hid (C[16]? = some (.int .u16 (g.i : Int))) := hG.out.rest.1
  have iI : (g.i : Int) < 65536 := by have := hG.out.ok.i; omega
  have eR : Hid (doG g ⟨23, x, y, n, b, a⟩ f d = ((setG g x g.de), 1)) := by
    show _ = _
    rfl
  rw [eR.out]
  have hxx : Hid (x < 16 ∧ y < 16 ∧ b < 256 ∧ a < 65536) := ⟨hx, hy, hb, ha⟩
  clear hx hy hb ha hp hq lp lq hR
  go_enter Tryz.func70, Tryz.ntmps70
  go_wp2_with (first
    | ((with_reducible refine at_st rtG (w.heap.size + 4) ZC C1 ?_ ?_ ?_ ?_ (.tmp 8) (.tmp 151) ?_ ?_ ?_ ?_ ?_); exact K1.out.1.bx 4 _ _ _ rfl; exact hZ'.out; exact hS1.out; exact K1.out.2.lies.size.2.1; rfl; rfl; rfl; rfl; intro yE HE; have KE : Hid (Fm w [(w.heap.size, C1, 27), (w.heap.size + 1, OC, 60), (w.heap.size + 2, D, 30), (w.heap.size + 3, (dCs d), 38), (w.heap.size + 4, C1, 27)] yE ∧ GO B yE C1 (setG g x g.de)) := ⟨K1.out.1.put 4 _ _ _ _ rfl HE.out, (K1.out.2).offT (K1.out.1.bx 4 _ _ _ rfl) (by decide) (by decide) HE.out.2.2⟩; clear HE)
    | ((with_reducible refine gen_world (y0.setCell ⟨w.heap.size, x, none⟩ (.int .u8 (R : Int))) (fun yy => Fm w [(w.heap.size, C1, 27), (w.heap.size + 1, OC, 60), (w.heap.size + 2, D, 30), (w.heap.size + 3, (dCs d), 38), (w.heap.size + 4, ZC, 27)] yy ∧ GO B yy C1 (setG g x g.de)) ?_ ?_); (exact ⟨K0.out.1.setCell 0 _ _ _ _ rfl x _ hC1.out.symm, (by have h := ((K0.out.2).offT (K0.out.1.bx 0 _ _ _ rfl) (by decide) (by decide) (fun q' hq' => heap_setCell_other y0 ⟨w.heap.size, x, none⟩ q' (.int .u8 (R : Int)) hq')); have h' := h.rv x hxx.out.1 g.de; rw [hC1.out]; rw [hR'.out] at h'; exact h')⟩); intro y1 K1; clear z1)
    | ((with_reducible refine gen_world (((((w.alloc (.cells C 27)).alloc (.cells OC 60)).alloc (.cells D 30)).alloc (.cells (dCs d) 38)).alloc (.cells z23A 27)) (fun y => Fm w [(w.heap.size, C, 27), (w.heap.size + 1, OC, 60), (w.heap.size + 2, D, 30), (w.heap.size + 3, (dCs d), 38), (w.heap.size + 4, ZC, 27)] y ∧ GO B y C g) ?_ ?_); (rw [hZ.out]; unfold gZ; exact ⟨Fm.five w _ _ _ _ _ _ _ _ _ _, hG.out.below (Fm.five w _ _ _ _ _ _ _ _ _ _).low⟩); intro y0 K0; obtain ⟨v1, v2, e0, e1, e2, e4, e5⟩ := five_cells (K := 23) K0.out.1 fV.out hOC.out; have z1 := (K0.out.1.bx 0 _ _ _ rfl).fz x; have e16 := (K0.out.1.bx 0 _ _ _ rfl).c 16 _ fI.out; have c19 := (K0.out.1.bx 0 _ _ _ rfl).c 19 _ f19.out)
    | ((with_reducible refine at_load rtG w.heap.size C1 ?_ ?_ (.tmp 4) ?_ ?_ ?_ ?_); exact K1.out.1.bx 0 _ _ _ rfl; exact hS1.out; kernel_rfl; rfl; rfl))
  exact ret_two rtG rfl rfl rfl (KE.out.1.bx 4 _ _ _ rfl) hS1.out rfl ⟨C1, rfl, ⟨KE.out.2, BK.ofLow KE.out.1.low hB.out⟩⟩
theorem rothers_wait (w : World) (B : Nat) (C D : Array Value) (g : Gm) (f : Fo) (d : Fd) (hG : Hid (GO B w C g)) (hB : Hid (B ≤ w.heap.size)) (hf : Hid (FL w D f)) (hd : Hid d.Ok) (x y n b a : Nat) (hx : x < 16) (hy : y < 16) (hb : b < 256) (ha : a < 65536) (hk : d.ky < 0) :
    Calls Tryz.prog 70 #[.agg C, .agg #[.int .u8 24, .int .u8 (x : Int), .int .u8 (y : Int), .int .u8 (n : Int), .int .u8 (b : Int), .int .u16 (a : Int)], .agg D, .agg (dCs d)] w (RdE B w (doG g ⟨24, x, y, n, b, a⟩ f d)) := by
  obtain ⟨ZC, p, q, gC, gD, hZ, hZ', hp, hq, lp, lq, fV, ixx, ixy, ixi, iyi, ibi, iai, ipi, iqi⟩ := pre_do w B C D g f x y b a hG hf hx hy hb ha
  obtain ⟨OC, hOC⟩ := hid_ex #[.int .u8 24, .int .u8 (x : Int), .int .u8 (y : Int), .int .u8 (n : Int), .int .u8 (b : Int), .int .u16 (a : Int)]
  rw [← hOC.out]
  have hk' : Hid (d.ky < 0) := hk
  have qk : decide (d.ky < 0) = true := by simp; exact hk
  have fk : Hid ((dCs d)[2]? = some (.int .i64 d.ky)) := (rfl : _ = _)
  have fI : Hid (C[16]? = some (.int .u16 (g.i : Int))) := hG.out.rest.1
  have iI : (g.i : Int) < 65536 := by have := hG.out.ok.i; omega
  have eR : Hid (doG g ⟨24, x, y, n, b, a⟩ f d = (g, 2)) := by
    show _ = _
    (show (if d.ky < 0 then (g, 2) else _) = _; rw [if_pos hk'.out])
  rw [eR.out]
  have hxx : Hid (x < 16 ∧ y < 16 ∧ b < 256 ∧ a < 65536) := ⟨hx, hy, hb, ha⟩
  clear hx hy hb ha hp hq lp lq hk
  go_enter Tryz.func70, Tryz.ntmps70
  go_wp2_with (first
    | ((with_reducible refine at_st rtG (w.heap.size + 4) ZC C ?_ ?_ ?_ ?_ (.tmp 8) (.tmp 47) ?_ ?_ ?_ ?_ ?_); exact K0.out.1.bx 4 _ _ _ rfl; exact hZ'.out; exact gC.out; exact K0.out.2.lies.size.2.1; rfl; rfl; rfl; rfl; intro yE HE; have KE : Hid (Fm w [(w.heap.size, C, 27), (w.heap.size + 1, OC, 60), (w.heap.size + 2, D, 30), (w.heap.size + 3, (dCs d), 38), (w.heap.size + 4, C, 27)] yE ∧ GO B yE C g) := ⟨K0.out.1.put 4 _ _ _ _ rfl HE.out, (K0.out.2).offT (K0.out.1.bx 4 _ _ _ rfl) (by decide) (by decide) HE.out.2.2⟩; clear HE)
    | ((with_reducible refine gen_world (((((w.alloc (.cells C 27)).alloc (.cells OC 60)).alloc (.cells D 30)).alloc (.cells (dCs d) 38)).alloc (.cells z23A 27)) (fun y => Fm w [(w.heap.size, C, 27), (w.heap.size + 1, OC, 60), (w.heap.size + 2, D, 30), (w.heap.size + 3, (dCs d), 38), (w.heap.size + 4, ZC, 27)] y ∧ GO B y C g) ?_ ?_); (rw [hZ.out]; unfold gZ; exact ⟨Fm.five w _ _ _ _ _ _ _ _ _ _, hG.out.below (Fm.five w _ _ _ _ _ _ _ _ _ _).low⟩); intro y0 K0; obtain ⟨v1, v2, e0, e1, e2, e4, e5⟩ := five_cells (K := 24) K0.out.1 fV.out hOC.out; have e16 := (K0.out.1.bx 0 _ _ _ rfl).c 16 _ fI.out; have ck := (K0.out.1.bx 3 _ _ _ rfl).c 2 _ fk.out)
    | ((with_reducible refine at_load rtG w.heap.size C ?_ ?_ (.tmp 4) ?_ ?_ ?_ ?_); exact K0.out.1.bx 0 _ _ _ rfl; exact gC.out; kernel_rfl; rfl; rfl))
  exact ret_two rtG rfl rfl rfl (KE.out.1.bx 4 _ _ _ rfl) gC.out rfl ⟨C, rfl, ⟨KE.out.2, BK.ofLow KE.out.1.low hB.out⟩⟩
theorem rothers_key (w : World) (B : Nat) (C D : Array Value) (g : Gm) (f : Fo) (d : Fd) (hG : Hid (GO B w C g)) (hB : Hid (B ≤ w.heap.size)) (hf : Hid (FL w D f)) (hd : Hid d.Ok) (x y n b a : Nat) (hx : x < 16) (hy : y < 16) (hb : b < 256) (ha : a < 65536) (hk : ¬ d.ky < 0) (hk2 : d.ky ≤ 15) :
    Calls Tryz.prog 70 #[.agg C, .agg #[.int .u8 24, .int .u8 (x : Int), .int .u8 (y : Int), .int .u8 (n : Int), .int .u8 (b : Int), .int .u16 (a : Int)], .agg D, .agg (dCs d)] w (RdE B w (doG g ⟨24, x, y, n, b, a⟩ f d)) := by
  obtain ⟨ZC, p, q, gC, gD, hZ, hZ', hp, hq, lp, lq, fV, ixx, ixy, ixi, iyi, ibi, iai, ipi, iqi⟩ := pre_do w B C D g f x y b a hG hf hx hy hb ha
  obtain ⟨OC, hOC⟩ := hid_ex #[.int .u8 24, .int .u8 (x : Int), .int .u8 (y : Int), .int .u8 (n : Int), .int .u8 (b : Int), .int .u16 (a : Int)]
  rw [← hOC.out]
  have hk' : Hid (¬ d.ky < 0) := hk
  obtain ⟨R, hR⟩ : ∃ z, (UInt8.ofNat d.ky.toNat).toNat = z := ⟨_, rfl⟩
  have eR0 : d.ky = (R : Int) := by rw [← hR, ofB (by omega)]; omega
  have hR' : Hid ((UInt8.ofNat d.ky.toNat).toNat = R) := hR
  have iR : (R : Int) < 16 := by omega
  have qk : decide ((R : Int) < 0) = false := by simp
  have fk : Hid ((dCs d)[2]? = some (.int .i64 (R : Int))) := by rw [← eR0]; exact (rfl : _ = _)
  obtain ⟨C1, hC1⟩ : ∃ z, Hid (z = C.setIfInBounds x (.int .u8 (R : Int))) := ⟨_, (rfl : C.setIfInBounds x (.int .u8 (R : Int)) = _)⟩
  have hS1 : Hid (C1.size = 23) := by show _ = _; rw [hC1.out, Array.size_setIfInBounds]; exact gC.out
  have fI : Hid (C[16]? = some (.int .u16 (g.i : Int))) := hG.out.rest.1
  have iI : (g.i : Int) < 65536 := by have := hG.out.ok.i; omega
  have eR : Hid (doG g ⟨24, x, y, n, b, a⟩ f d = ((setG g x (UInt8.ofNat d.ky.toNat)), 1)) := by
    show _ = _
    (show (if d.ky < 0 then (g, 2) else _) = _; rw [if_neg hk'.out])
  rw [eR.out]
  have hxx : Hid (x < 16 ∧ y < 16 ∧ b < 256 ∧ a < 65536) := ⟨hx, hy, hb, ha⟩
  clear hx hy hb ha hp hq lp lq hk hk2 hR eR0
  go_enter Tryz.func70, Tryz.ntmps70
  go_wp2_with (first
    | ((with_reducible refine at_st rtG (w.heap.size + 4) ZC C1 ?_ ?_ ?_ ?_ (.tmp 8) (.tmp 151) ?_ ?_ ?_ ?_ ?_); exact K1.out.1.bx 4 _ _ _ rfl; exact hZ'.out; exact hS1.out; exact K1.out.2.lies.size.2.1; rfl; rfl; rfl; rfl; intro yE HE; have KE : Hid (Fm w [(w.heap.size, C1, 27), (w.heap.size + 1, OC, 60), (w.heap.size + 2, D, 30), (w.heap.size + 3, (dCs d), 38), (w.heap.size + 4, C1, 27)] yE ∧ GO B yE C1 (setG g x (UInt8.ofNat d.ky.toNat))) := ⟨K1.out.1.put 4 _ _ _ _ rfl HE.out, (K1.out.2).offT (K1.out.1.bx 4 _ _ _ rfl) (by decide) (by decide) HE.out.2.2⟩; clear HE)
    | ((with_reducible refine gen_world (y0.setCell ⟨w.heap.size, x, none⟩ (.int .u8 (R : Int))) (fun yy => Fm w [(w.heap.size, C1, 27), (w.heap.size + 1, OC, 60), (w.heap.size + 2, D, 30), (w.heap.size + 3, (dCs d), 38), (w.heap.size + 4, ZC, 27)] yy ∧ GO B yy C1 (setG g x (UInt8.ofNat d.ky.toNat))) ?_ ?_); (exact ⟨K0.out.1.setCell 0 _ _ _ _ rfl x _ hC1.out.symm, (by have h := ((K0.out.2).offT (K0.out.1.bx 0 _ _ _ rfl) (by decide) (by decide) (fun q' hq' => heap_setCell_other y0 ⟨w.heap.size, x, none⟩ q' (.int .u8 (R : Int)) hq')); have h' := h.rv x hxx.out.1 (UInt8.ofNat d.ky.toNat); rw [hC1.out]; rw [hR'.out] at h'; exact h')⟩); intro y1 K1; clear z1)
    | ((with_reducible refine gen_world (((((w.alloc (.cells C 27)).alloc (.cells OC 60)).alloc (.cells D 30)).alloc (.cells (dCs d) 38)).alloc (.cells z23A 27)) (fun y => Fm w [(w.heap.size, C, 27), (w.heap.size + 1, OC, 60), (w.heap.size + 2, D, 30), (w.heap.size + 3, (dCs d), 38), (w.heap.size + 4, ZC, 27)] y ∧ GO B y C g) ?_ ?_); (rw [hZ.out]; unfold gZ; exact ⟨Fm.five w _ _ _ _ _ _ _ _ _ _, hG.out.below (Fm.five w _ _ _ _ _ _ _ _ _ _).low⟩); intro y0 K0; obtain ⟨v1, v2, e0, e1, e2, e4, e5⟩ := five_cells (K := 24) K0.out.1 fV.out hOC.out; have z1 := (K0.out.1.bx 0 _ _ _ rfl).fz x; have e16 := (K0.out.1.bx 0 _ _ _ rfl).c 16 _ fI.out; have ck := (K0.out.1.bx 3 _ _ _ rfl).c 2 _ fk.out)
    | ((with_reducible refine at_load rtG w.heap.size C1 ?_ ?_ (.tmp 4) ?_ ?_ ?_ ?_); exact K1.out.1.bx 0 _ _ _ rfl; exact hS1.out; kernel_rfl; rfl; rfl))
  exact ret_two rtG rfl rfl rfl (KE.out.1.bx 4 _ _ _ rfl) hS1.out rfl ⟨C1, rfl, ⟨KE.out.2, BK.ofLow KE.out.1.low hB.out⟩⟩
theorem rothers_delay (w : World) (B : Nat) (C D : Array Value) (g : Gm) (f : Fo) (d : Fd) (hG : Hid (GO B w C g)) (hB : Hid (B ≤ w.heap.size)) (hf : Hid (FL w D f)) (hd : Hid d.Ok) (x y n b a : Nat) (hx : x < 16) (hy : y < 16) (hb : b < 256) (ha : a < 65536) :
    Calls Tryz.prog 70 #[.agg C, .agg #[.int .u8 25, .int .u8 (x : Int), .int .u8 (y : Int), .int .u8 (n : Int), .int .u8 (b : Int), .int .u16 (a : Int)], .agg D, .agg (dCs d)] w (RdE B w (doG g ⟨25, x, y, n, b, a⟩ f d)) := by
  obtain ⟨ZC, p, q, gC, gD, hZ, hZ', hp, hq, lp, lq, fV, ixx, ixy, ixi, iyi, ibi, iai, ipi, iqi⟩ := pre_do w B C D g f x y b a hG hf hx hy hb ha
  obtain ⟨OC, hOC⟩ := hid_ex #[.int .u8 25, .int .u8 (x : Int), .int .u8 (y : Int), .int .u8 (n : Int), .int .u8 (b : Int), .int .u16 (a : Int)]
  rw [← hOC.out]
  have hpp : Hid ((g.v.getD x 0).toNat = p) := hp
  obtain ⟨C1, hC1⟩ : ∃ z, Hid (z = C.setIfInBounds 19 (.int .u8 (p : Int))) := ⟨_, (rfl : C.setIfInBounds 19 (.int .u8 (p : Int)) = _)⟩
  have hS1 : Hid (C1.size = 23) := by show _ = _; rw [hC1.out, Array.size_setIfInBounds]; exact gC.out
  have fI : Hid (C[16]? = some (.int .u16 (g.i : Int))) := hG.out.rest.1
  have iI : (g.i : Int) < 65536 := by have := hG.out.ok.i; omega
  have eR : Hid (doG g ⟨25, x, y, n, b, a⟩ f d = ({ g with de := g.v.getD x 0 }, 1)) := by
    show _ = _
    rfl
  rw [eR.out]
  have hxx : Hid (x < 16 ∧ y < 16 ∧ b < 256 ∧ a < 65536) := ⟨hx, hy, hb, ha⟩
  clear hx hy hb ha hp hq lp lq
  go_enter Tryz.func70, Tryz.ntmps70
  go_wp2_with (first
    | ((with_reducible refine at_st rtG (w.heap.size + 4) ZC C1 ?_ ?_ ?_ ?_ (.tmp 8) (.tmp 151) ?_ ?_ ?_ ?_ ?_); exact K1.out.1.bx 4 _ _ _ rfl; exact hZ'.out; exact hS1.out; exact K1.out.2.lies.size.2.1; rfl; rfl; rfl; rfl; intro yE HE; have KE : Hid (Fm w [(w.heap.size, C1, 27), (w.heap.size + 1, OC, 60), (w.heap.size + 2, D, 30), (w.heap.size + 3, (dCs d), 38), (w.heap.size + 4, C1, 27)] yE ∧ GO B yE C1 { g with de := g.v.getD x 0 }) := ⟨K1.out.1.put 4 _ _ _ _ rfl HE.out, (K1.out.2).offT (K1.out.1.bx 4 _ _ _ rfl) (by decide) (by decide) HE.out.2.2⟩; clear HE)
    | ((with_reducible refine gen_world (y0.setCell ⟨w.heap.size, 19, none⟩ (.int .u8 (p : Int))) (fun yy => Fm w [(w.heap.size, C1, 27), (w.heap.size + 1, OC, 60), (w.heap.size + 2, D, 30), (w.heap.size + 3, (dCs d), 38), (w.heap.size + 4, ZC, 27)] yy ∧ GO B yy C1 { g with de := g.v.getD x 0 }) ?_ ?_); (exact ⟨K0.out.1.setCell 0 _ _ _ _ rfl 19 _ hC1.out.symm, (by have h := ((K0.out.2).offT (K0.out.1.bx 0 _ _ _ rfl) (by decide) (by decide) (fun q' hq' => heap_setCell_other y0 ⟨w.heap.size, 19, none⟩ q' (.int .u8 (p : Int)) hq')); have h' := h.rde (g.v.getD x 0); rw [hC1.out]; rw [hpp.out] at h'; exact h')⟩); intro y1 K1; clear z1)
    | ((with_reducible refine gen_world (((((w.alloc (.cells C 27)).alloc (.cells OC 60)).alloc (.cells D 30)).alloc (.cells (dCs d) 38)).alloc (.cells z23A 27)) (fun y => Fm w [(w.heap.size, C, 27), (w.heap.size + 1, OC, 60), (w.heap.size + 2, D, 30), (w.heap.size + 3, (dCs d), 38), (w.heap.size + 4, ZC, 27)] y ∧ GO B y C g) ?_ ?_); (rw [hZ.out]; unfold gZ; exact ⟨Fm.five w _ _ _ _ _ _ _ _ _ _, hG.out.below (Fm.five w _ _ _ _ _ _ _ _ _ _).low⟩); intro y0 K0; obtain ⟨v1, v2, e0, e1, e2, e4, e5⟩ := five_cells (K := 25) K0.out.1 fV.out hOC.out; have s1 := (K0.out.1.bx 0 _ _ _ rfl).c 19 _ hG.out.rest.2.2.1; have z1 := (K0.out.1.bx 0 _ _ _ rfl).fz 19; have e16 := (K0.out.1.bx 0 _ _ _ rfl).c 16 _ fI.out)
    | ((with_reducible refine at_load rtG w.heap.size C1 ?_ ?_ (.tmp 4) ?_ ?_ ?_ ?_); exact K1.out.1.bx 0 _ _ _ rfl; exact hS1.out; kernel_rfl; rfl; rfl))
  exact ret_two rtG rfl rfl rfl (KE.out.1.bx 4 _ _ _ rfl) hS1.out rfl ⟨C1, rfl, ⟨KE.out.2, BK.ofLow KE.out.1.low hB.out⟩⟩
theorem rothers_sound (w : World) (B : Nat) (C D : Array Value) (g : Gm) (f : Fo) (d : Fd) (hG : Hid (GO B w C g)) (hB : Hid (B ≤ w.heap.size)) (hf : Hid (FL w D f)) (hd : Hid d.Ok) (x y n b a : Nat) (hx : x < 16) (hy : y < 16) (hb : b < 256) (ha : a < 65536) :
    Calls Tryz.prog 70 #[.agg C, .agg #[.int .u8 26, .int .u8 (x : Int), .int .u8 (y : Int), .int .u8 (n : Int), .int .u8 (b : Int), .int .u16 (a : Int)], .agg D, .agg (dCs d)] w (RdE B w (doG g ⟨26, x, y, n, b, a⟩ f d)) := by
  obtain ⟨ZC, p, q, gC, gD, hZ, hZ', hp, hq, lp, lq, fV, ixx, ixy, ixi, iyi, ibi, iai, ipi, iqi⟩ := pre_do w B C D g f x y b a hG hf hx hy hb ha
  obtain ⟨OC, hOC⟩ := hid_ex #[.int .u8 26, .int .u8 (x : Int), .int .u8 (y : Int), .int .u8 (n : Int), .int .u8 (b : Int), .int .u16 (a : Int)]
  rw [← hOC.out]
  have hpp : Hid ((g.v.getD x 0).toNat = p) := hp
  obtain ⟨C1, hC1⟩ : ∃ z, Hid (z = C.setIfInBounds 20 (.int .u8 (p : Int))) := ⟨_, (rfl : C.setIfInBounds 20 (.int .u8 (p : Int)) = _)⟩
  have hS1 : Hid (C1.size = 23) := by show _ = _; rw [hC1.out, Array.size_setIfInBounds]; exact gC.out
  have fI : Hid (C[16]? = some (.int .u16 (g.i : Int))) := hG.out.rest.1
  have iI : (g.i : Int) < 65536 := by have := hG.out.ok.i; omega
  have eR : Hid (doG g ⟨26, x, y, n, b, a⟩ f d = ({ g with so := g.v.getD x 0 }, 1)) := by
    show _ = _
    rfl
  rw [eR.out]
  have hxx : Hid (x < 16 ∧ y < 16 ∧ b < 256 ∧ a < 65536) := ⟨hx, hy, hb, ha⟩
  clear hx hy hb ha hp hq lp lq
  go_enter Tryz.func70, Tryz.ntmps70
  go_wp2_with (first
    | ((with_reducible refine at_st rtG (w.heap.size + 4) ZC C1 ?_ ?_ ?_ ?_ (.tmp 8) (.tmp 151) ?_ ?_ ?_ ?_ ?_); exact K1.out.1.bx 4 _ _ _ rfl; exact hZ'.out; exact hS1.out; exact K1.out.2.lies.size.2.1; rfl; rfl; rfl; rfl; intro yE HE; have KE : Hid (Fm w [(w.heap.size, C1, 27), (w.heap.size + 1, OC, 60), (w.heap.size + 2, D, 30), (w.heap.size + 3, (dCs d), 38), (w.heap.size + 4, C1, 27)] yE ∧ GO B yE C1 { g with so := g.v.getD x 0 }) := ⟨K1.out.1.put 4 _ _ _ _ rfl HE.out, (K1.out.2).offT (K1.out.1.bx 4 _ _ _ rfl) (by decide) (by decide) HE.out.2.2⟩; clear HE)
    | ((with_reducible refine gen_world (y0.setCell ⟨w.heap.size, 20, none⟩ (.int .u8 (p : Int))) (fun yy => Fm w [(w.heap.size, C1, 27), (w.heap.size + 1, OC, 60), (w.heap.size + 2, D, 30), (w.heap.size + 3, (dCs d), 38), (w.heap.size + 4, ZC, 27)] yy ∧ GO B yy C1 { g with so := g.v.getD x 0 }) ?_ ?_); (exact ⟨K0.out.1.setCell 0 _ _ _ _ rfl 20 _ hC1.out.symm, (by have h := ((K0.out.2).offT (K0.out.1.bx 0 _ _ _ rfl) (by decide) (by decide) (fun q' hq' => heap_setCell_other y0 ⟨w.heap.size, 20, none⟩ q' (.int .u8 (p : Int)) hq')); have h' := h.rso (g.v.getD x 0); rw [hC1.out]; rw [hpp.out] at h'; exact h')⟩); intro y1 K1; clear z1)
    | ((with_reducible refine gen_world (((((w.alloc (.cells C 27)).alloc (.cells OC 60)).alloc (.cells D 30)).alloc (.cells (dCs d) 38)).alloc (.cells z23A 27)) (fun y => Fm w [(w.heap.size, C, 27), (w.heap.size + 1, OC, 60), (w.heap.size + 2, D, 30), (w.heap.size + 3, (dCs d), 38), (w.heap.size + 4, ZC, 27)] y ∧ GO B y C g) ?_ ?_); (rw [hZ.out]; unfold gZ; exact ⟨Fm.five w _ _ _ _ _ _ _ _ _ _, hG.out.below (Fm.five w _ _ _ _ _ _ _ _ _ _).low⟩); intro y0 K0; obtain ⟨v1, v2, e0, e1, e2, e4, e5⟩ := five_cells (K := 26) K0.out.1 fV.out hOC.out; have s1 := (K0.out.1.bx 0 _ _ _ rfl).c 20 _ hG.out.rest.2.2.2; have z1 := (K0.out.1.bx 0 _ _ _ rfl).fz 20; have e16 := (K0.out.1.bx 0 _ _ _ rfl).c 16 _ fI.out)
    | ((with_reducible refine at_load rtG w.heap.size C1 ?_ ?_ (.tmp 4) ?_ ?_ ?_ ?_); exact K1.out.1.bx 0 _ _ _ rfl; exact hS1.out; kernel_rfl; rfl; rfl))
  exact ret_two rtG rfl rfl rfl (KE.out.1.bx 4 _ _ _ rfl) hS1.out rfl ⟨C1, rfl, ⟨KE.out.2, BK.ofLow KE.out.1.low hB.out⟩⟩
theorem rothers_on (w : World) (B : Nat) (C D : Array Value) (g : Gm) (f : Fo) (d : Fd) (hG : Hid (GO B w C g)) (hB : Hid (B ≤ w.heap.size)) (hf : Hid (FL w D f)) (hd : Hid d.Ok) (x y n b a : Nat) (hx : x < 16) (hy : y < 16) (hb : b < 256) (ha : a < 65536) :
    Calls Tryz.prog 70 #[.agg C, .agg #[.int .u8 27, .int .u8 (x : Int), .int .u8 (y : Int), .int .u8 (n : Int), .int .u8 (b : Int), .int .u16 (a : Int)], .agg D, .agg (dCs d)] w (RdE B w (doG g ⟨27, x, y, n, b, a⟩ f d)) := by
  obtain ⟨ZC, p, q, gC, gD, hZ, hZ', hp, hq, lp, lq, fV, ixx, ixy, ixi, iyi, ibi, iai, ipi, iqi⟩ := pre_do w B C D g f x y b a hG hf hx hy hb ha
  obtain ⟨OC, hOC⟩ := hid_ex #[.int .u8 27, .int .u8 (x : Int), .int .u8 (y : Int), .int .u8 (n : Int), .int .u8 (b : Int), .int .u16 (a : Int)]
  rw [← hOC.out]
  obtain ⟨I, hI⟩ : ∃ z, g.i = z := ⟨_, rfl⟩
  have lI := hG.out.ok.i
  obtain ⟨A, hA⟩ : ∃ z, (g.i + p) % 65536 = z := ⟨_, rfl⟩
  have hA' : Hid (A < 65536) := by show A < 65536; omega
  have wA : IntKind.u16.wrap ((g.i : Int) + (p : Int)) = (A : Int) := by rw [IntKind.wrap_u16]; omega
  have wA' : ((g.i : Int) + (p : Int)) % 65536 = (A : Int) := by omega
  clear hI lI
  obtain ⟨C1, hC1⟩ : ∃ z, Hid (z = C.setIfInBounds 16 (.int .u16 (A : Int))) := ⟨_, (rfl : C.setIfInBounds 16 (.int .u16 (A : Int)) = _)⟩
  have hS1 : Hid (C1.size = 23) := by show _ = _; rw [hC1.out, Array.size_setIfInBounds]; exact gC.out
  have fI : Hid (C[16]? = some (.int .u16 (g.i : Int))) := hG.out.rest.1
  have iI : (g.i : Int) < 65536 := by have := hG.out.ok.i; omega
  have eR : Hid (doG g ⟨27, x, y, n, b, a⟩ f d = ({ g with i := A }, 1)) := by
    show _ = _
    (rw [← hA, ← hp]; rfl)
  rw [eR.out]
  have hxx : Hid (x < 16 ∧ y < 16 ∧ b < 256 ∧ a < 65536) := ⟨hx, hy, hb, ha⟩
  clear hx hy hb ha hp hq lp lq hA
  go_enter Tryz.func70, Tryz.ntmps70
  go_wp2_with (first
    | ((with_reducible refine at_st rtG (w.heap.size + 4) ZC C1 ?_ ?_ ?_ ?_ (.tmp 8) (.tmp 151) ?_ ?_ ?_ ?_ ?_); exact K1.out.1.bx 4 _ _ _ rfl; exact hZ'.out; exact hS1.out; exact K1.out.2.lies.size.2.1; rfl; rfl; rfl; rfl; intro yE HE; have KE : Hid (Fm w [(w.heap.size, C1, 27), (w.heap.size + 1, OC, 60), (w.heap.size + 2, D, 30), (w.heap.size + 3, (dCs d), 38), (w.heap.size + 4, C1, 27)] yE ∧ GO B yE C1 { g with i := A }) := ⟨K1.out.1.put 4 _ _ _ _ rfl HE.out, (K1.out.2).offT (K1.out.1.bx 4 _ _ _ rfl) (by decide) (by decide) HE.out.2.2⟩; clear HE)
    | ((with_reducible refine gen_world (y0.setCell ⟨w.heap.size, 16, none⟩ (.int .u16 (A : Int))) (fun yy => Fm w [(w.heap.size, C1, 27), (w.heap.size + 1, OC, 60), (w.heap.size + 2, D, 30), (w.heap.size + 3, (dCs d), 38), (w.heap.size + 4, ZC, 27)] yy ∧ GO B yy C1 { g with i := A }) ?_ ?_); (exact ⟨K0.out.1.setCell 0 _ _ _ _ rfl 16 _ hC1.out.symm, (by have h := ((K0.out.2).offT (K0.out.1.bx 0 _ _ _ rfl) (by decide) (by decide) (fun q' hq' => heap_setCell_other y0 ⟨w.heap.size, 16, none⟩ q' (.int .u16 (A : Int)) hq')); have h' := h.ri A hA'.out; rw [hC1.out]; exact h')⟩); intro y1 K1; clear z1)
    | ((with_reducible refine gen_world (((((w.alloc (.cells C 27)).alloc (.cells OC 60)).alloc (.cells D 30)).alloc (.cells (dCs d) 38)).alloc (.cells z23A 27)) (fun y => Fm w [(w.heap.size, C, 27), (w.heap.size + 1, OC, 60), (w.heap.size + 2, D, 30), (w.heap.size + 3, (dCs d), 38), (w.heap.size + 4, ZC, 27)] y ∧ GO B y C g) ?_ ?_); (rw [hZ.out]; unfold gZ; exact ⟨Fm.five w _ _ _ _ _ _ _ _ _ _, hG.out.below (Fm.five w _ _ _ _ _ _ _ _ _ _).low⟩); intro y0 K0; obtain ⟨v1, v2, e0, e1, e2, e4, e5⟩ := five_cells (K := 27) K0.out.1 fV.out hOC.out; have z1 := (K0.out.1.bx 0 _ _ _ rfl).fz 16; have e16 := (K0.out.1.bx 0 _ _ _ rfl).c 16 _ fI.out)
    | ((with_reducible refine at_load rtG w.heap.size C1 ?_ ?_ (.tmp 4) ?_ ?_ ?_ ?_); exact K1.out.1.bx 0 _ _ _ rfl; exact hS1.out; kernel_rfl; rfl; rfl))
  exact ret_two rtG rfl rfl rfl (KE.out.1.bx 4 _ _ _ rfl) hS1.out rfl ⟨C1, rfl, ⟨KE.out.2, BK.ofLow KE.out.1.low hB.out⟩⟩
theorem rothers_digit (w : World) (B : Nat) (C D : Array Value) (g : Gm) (f : Fo) (d : Fd) (hG : Hid (GO B w C g)) (hB : Hid (B ≤ w.heap.size)) (hf : Hid (FL w D f)) (hd : Hid d.Ok) (x y n b a : Nat) (hx : x < 16) (hy : y < 16) (hb : b < 256) (ha : a < 65536) :
    Calls Tryz.prog 70 #[.agg C, .agg #[.int .u8 28, .int .u8 (x : Int), .int .u8 (y : Int), .int .u8 (n : Int), .int .u8 (b : Int), .int .u16 (a : Int)], .agg D, .agg (dCs d)] w (RdE B w (doG g ⟨28, x, y, n, b, a⟩ f d)) := by
  obtain ⟨ZC, p, q, gC, gD, hZ, hZ', hp, hq, lp, lq, fV, ixx, ixy, ixi, iyi, ibi, iai, ipi, iqi⟩ := pre_do w B C D g f x y b a hG hf hx hy hb ha
  obtain ⟨OC, hOC⟩ := hid_ex #[.int .u8 28, .int .u8 (x : Int), .int .u8 (y : Int), .int .u8 (n : Int), .int .u8 (b : Int), .int .u16 (a : Int)]
  rw [← hOC.out]
  obtain ⟨m, hm⟩ : ∃ z, p % 16 = z := ⟨_, rfl⟩
  obtain ⟨A, hA⟩ : ∃ z, f.pl.getD m 0 = z := ⟨_, rfl⟩
  have lm : m < 16 := by omega
  have hA' : Hid (A < 65536) := by
    show A < 65536
    rw [← hA, List.getD_eq_getElem?_getD]
    rcases e : f.pl[m]? with _ | s
    · decide
    · exact hf.out.pl s (List.mem_of_getElem? e)
  have wm : (p : Int) % 16 = (m : Int) := by omega
  have wm' : Int.tmod (p : Int) 16 = (m : Int) := by rw [Int.tmod_eq_emod_of_nonneg (by omega)]; exact wm
  have imi : (m : Int) < 16 := by omega
  have ixm := fun v => (by have := idx (g := w.heap.size + 2) (off := 0) Tryz.underlying28 (s := 1) (by kernel_rfl) .u8 m v lm; rwa [Nat.mul_one, Nat.zero_add] at this : (Instr.indexAt 28 (.pointer (some ⟨w.heap.size + 2, 0, none⟩)) (.int .u8 (m : Int))).run Tryz.prog v = .ok (.pointer (some ⟨w.heap.size + 2, m, none⟩)) v)
  have fD : Hid (D[m]? = some (.int .u16 (A : Int))) := by rw [← hA]; exact hf.out.atR m lm
  obtain ⟨C1, hC1⟩ : ∃ z, Hid (z = C.setIfInBounds 16 (.int .u16 (A : Int))) := ⟨_, (rfl : C.setIfInBounds 16 (.int .u16 (A : Int)) = _)⟩
  have hS1 : Hid (C1.size = 23) := by show _ = _; rw [hC1.out, Array.size_setIfInBounds]; exact gC.out
  have fI : Hid (C[16]? = some (.int .u16 (g.i : Int))) := hG.out.rest.1
  have iI : (g.i : Int) < 65536 := by have := hG.out.ok.i; omega
  have eR : Hid (doG g ⟨28, x, y, n, b, a⟩ f d = ({ g with i := A }, 1)) := by
    show _ = _
    (rw [← hA, ← hm, ← hp]; rfl)
  rw [eR.out]
  have hxx : Hid (x < 16 ∧ y < 16 ∧ b < 256 ∧ a < 65536) := ⟨hx, hy, hb, ha⟩
  clear hx hy hb ha hp hq lp lq hA hm lm
  go_enter Tryz.func70, Tryz.ntmps70
  go_wp2_with (first
    | ((with_reducible refine at_st rtG (w.heap.size + 4) ZC C1 ?_ ?_ ?_ ?_ (.tmp 8) (.tmp 151) ?_ ?_ ?_ ?_ ?_); exact K1.out.1.bx 4 _ _ _ rfl; exact hZ'.out; exact hS1.out; exact K1.out.2.lies.size.2.1; rfl; rfl; rfl; rfl; intro yE HE; have KE : Hid (Fm w [(w.heap.size, C1, 27), (w.heap.size + 1, OC, 60), (w.heap.size + 2, D, 30), (w.heap.size + 3, (dCs d), 38), (w.heap.size + 4, C1, 27)] yE ∧ GO B yE C1 { g with i := A }) := ⟨K1.out.1.put 4 _ _ _ _ rfl HE.out, (K1.out.2).offT (K1.out.1.bx 4 _ _ _ rfl) (by decide) (by decide) HE.out.2.2⟩; clear HE)
    | ((with_reducible refine gen_world (y0.setCell ⟨w.heap.size, 16, none⟩ (.int .u16 (A : Int))) (fun yy => Fm w [(w.heap.size, C1, 27), (w.heap.size + 1, OC, 60), (w.heap.size + 2, D, 30), (w.heap.size + 3, (dCs d), 38), (w.heap.size + 4, ZC, 27)] yy ∧ GO B yy C1 { g with i := A }) ?_ ?_); (exact ⟨K0.out.1.setCell 0 _ _ _ _ rfl 16 _ hC1.out.symm, (by have h := ((K0.out.2).offT (K0.out.1.bx 0 _ _ _ rfl) (by decide) (by decide) (fun q' hq' => heap_setCell_other y0 ⟨w.heap.size, 16, none⟩ q' (.int .u16 (A : Int)) hq')); have h' := h.ri A hA'.out; rw [hC1.out]; exact h')⟩); intro y1 K1; clear z1)
    | ((with_reducible refine gen_world (((((w.alloc (.cells C 27)).alloc (.cells OC 60)).alloc (.cells D 30)).alloc (.cells (dCs d) 38)).alloc (.cells z23A 27)) (fun y => Fm w [(w.heap.size, C, 27), (w.heap.size + 1, OC, 60), (w.heap.size + 2, D, 30), (w.heap.size + 3, (dCs d), 38), (w.heap.size + 4, ZC, 27)] y ∧ GO B y C g) ?_ ?_); (rw [hZ.out]; unfold gZ; exact ⟨Fm.five w _ _ _ _ _ _ _ _ _ _, hG.out.below (Fm.five w _ _ _ _ _ _ _ _ _ _).low⟩); intro y0 K0; obtain ⟨v1, v2, e0, e1, e2, e4, e5⟩ := five_cells (K := 28) K0.out.1 fV.out hOC.out; have z1 := (K0.out.1.bx 0 _ _ _ rfl).fz 16; have e16 := (K0.out.1.bx 0 _ _ _ rfl).c 16 _ fI.out; have cD := (K0.out.1.bx 2 _ _ _ rfl).c m _ fD.out)
    | ((with_reducible refine at_load rtG w.heap.size C1 ?_ ?_ (.tmp 4) ?_ ?_ ?_ ?_); exact K1.out.1.bx 0 _ _ _ rfl; exact hS1.out; kernel_rfl; rfl; rfl))
  exact ret_two rtG rfl rfl rfl (KE.out.1.bx 4 _ _ _ rfl) hS1.out rfl ⟨C1, rfl, ⟨KE.out.2, BK.ofLow KE.out.1.low hB.out⟩⟩
end Go.Proofs.YteipjkjpeookaaaGreat
