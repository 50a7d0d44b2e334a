/- The document's own: do, its plain orders. -/
import Derived.Test.YteipjkjpeookaaaGreatJ28
namespace Go.Proofs.YteipjkjpeookaaaGreat
open Go Go.RowKit Go.Shelf
set_option linter.unusedVariables false
set_option maxHeartbeats 1000000
set_option maxRecDepth 100000

theorem rdo_jump (w : World) (B : Nat) (C D : Array Value) (g : Gm) (f : Fo) (d : Fd) (hG : Hid (GO B w C g)) (hB : Hid (B ≤ w.heap.size)) (hf : Hid (FL w D f)) (hd : Hid d.Ok) (x y n b a : Nat) (hx : x < 16) (hy : y < 16) (hb : b < 256) (ha : a < 65536) :
    Calls Tryz.prog 31 #[.agg C, .agg #[.int .u8 4, .int .u8 (x : Int), .int .u8 (y : Int), .int .u8 (n : Int), .int .u8 (b : Int), .int .u16 (a : Int)], .agg D, .agg (dCs d)] w (RdE B w (doG g ⟨4, x, y, n, b, a⟩ f d)) := by
  obtain ⟨ZC, p, q, gC, gD, hZ, hZ', hp, hq, lp, lq, fV, ixx, ixy, ixi, iyi, ibi, iai, ipi, iqi⟩ := pre_do w B C D g f x y b a hG hf hx hy hb ha
  obtain ⟨OC, hOC⟩ := hid_ex #[.int .u8 4, .int .u8 (x : Int), .int .u8 (y : Int), .int .u8 (n : Int), .int .u8 (b : Int), .int .u16 (a : Int)]
  rw [← hOC.out]
  obtain ⟨C1, hC1⟩ : ∃ z, Hid (z = C.setIfInBounds 17 (.int .u16 (a : Int))) := ⟨_, (rfl : C.setIfInBounds 17 (.int .u16 (a : Int)) = _)⟩
  have hS1 : Hid (C1.size = 23) := by show _ = _; rw [hC1.out, Array.size_setIfInBounds]; exact gC.out
  have eR : Hid (doG g ⟨4, x, y, n, b, a⟩ f d = ({ g with pc := a }, 1)) := by
    show _ = _
    rfl
  rw [eR.out]
  have hxx : Hid (x < 16 ∧ y < 16 ∧ b < 256 ∧ a < 65536) := ⟨hx, hy, hb, ha⟩
  clear hx hy hb ha hp hq lp lq
  go_enter Tryz.func31, Tryz.ntmps31
  go_wp2_with (first
    | ((with_reducible refine at_st rtG (w.heap.size + 4) ZC C1 ?_ ?_ ?_ ?_ (.tmp 8) (.tmp 196) ?_ ?_ ?_ ?_ ?_); exact K1.out.1.bx 4 _ _ _ rfl; exact hZ'.out; exact hS1.out; exact K1.out.2.lies.size.2.1; rfl; rfl; rfl; rfl; intro yE HE; have KE : Hid (Fm w [(w.heap.size, C1, 27), (w.heap.size + 1, OC, 60), (w.heap.size + 2, D, 30), (w.heap.size + 3, (dCs d), 38), (w.heap.size + 4, C1, 27)] yE ∧ GO B yE C1 { g with pc := a }) := ⟨K1.out.1.put 4 _ _ _ _ rfl HE.out, (K1.out.2).offT (K1.out.1.bx 4 _ _ _ rfl) (by decide) (by decide) HE.out.2.2⟩; clear HE)
    | ((with_reducible refine gen_world (y0.setCell ⟨w.heap.size, 17, none⟩ (.int .u16 (a : Int))) (fun yy => Fm w [(w.heap.size, C1, 27), (w.heap.size + 1, OC, 60), (w.heap.size + 2, D, 30), (w.heap.size + 3, (dCs d), 38), (w.heap.size + 4, ZC, 27)] yy ∧ GO B yy C1 { g with pc := a }) ?_ ?_); (exact ⟨K0.out.1.setCell 0 _ _ _ _ rfl 17 _ hC1.out.symm, (by have h := ((K0.out.2).offT (K0.out.1.bx 0 _ _ _ rfl) (by decide) (by decide) (fun q' hq' => heap_setCell_other y0 ⟨w.heap.size, 17, none⟩ q' (.int .u16 (a : Int)) hq')); have h' := h.rpc a hxx.out.2.2.2; rw [hC1.out]; exact h')⟩); intro y1 K1; clear z1)
    | ((with_reducible refine gen_world (((((w.alloc (.cells C 27)).alloc (.cells OC 60)).alloc (.cells D 30)).alloc (.cells (dCs d) 38)).alloc (.cells z23A 27)) (fun y => Fm w [(w.heap.size, C, 27), (w.heap.size + 1, OC, 60), (w.heap.size + 2, D, 30), (w.heap.size + 3, (dCs d), 38), (w.heap.size + 4, ZC, 27)] y ∧ GO B y C g) ?_ ?_); (rw [hZ.out]; unfold gZ; exact ⟨Fm.five w _ _ _ _ _ _ _ _ _ _, hG.out.below (Fm.five w _ _ _ _ _ _ _ _ _ _).low⟩); intro y0 K0; obtain ⟨v1, v2, e0, e1, e2, e4, e5⟩ := five_cells (K := 4) K0.out.1 fV.out hOC.out; have s1 := (K0.out.1.bx 0 _ _ _ rfl).c 17 _ hG.out.rest.2.1; have z1 := (K0.out.1.bx 0 _ _ _ rfl).fz 17)
    | ((with_reducible refine at_load rtG w.heap.size C1 ?_ ?_ (.tmp 4) ?_ ?_ ?_ ?_); exact K1.out.1.bx 0 _ _ _ rfl; exact hS1.out; kernel_rfl; rfl; rfl))
  exact ret_two rtG rfl rfl rfl (KE.out.1.bx 4 _ _ _ rfl) hS1.out rfl ⟨C1, rfl, ⟨KE.out.2, BK.ofLow KE.out.1.low hB.out⟩⟩
theorem rdo_point (w : World) (B : Nat) (C D : Array Value) (g : Gm) (f : Fo) (d : Fd) (hG : Hid (GO B w C g)) (hB : Hid (B ≤ w.heap.size)) (hf : Hid (FL w D f)) (hd : Hid d.Ok) (x y n b a : Nat) (hx : x < 16) (hy : y < 16) (hb : b < 256) (ha : a < 65536) :
    Calls Tryz.prog 31 #[.agg C, .agg #[.int .u8 17, .int .u8 (x : Int), .int .u8 (y : Int), .int .u8 (n : Int), .int .u8 (b : Int), .int .u16 (a : Int)], .agg D, .agg (dCs d)] w (RdE B w (doG g ⟨17, x, y, n, b, a⟩ f d)) := by
  obtain ⟨ZC, p, q, gC, gD, hZ, hZ', hp, hq, lp, lq, fV, ixx, ixy, ixi, iyi, ibi, iai, ipi, iqi⟩ := pre_do w B C D g f x y b a hG hf hx hy hb ha
  obtain ⟨OC, hOC⟩ := hid_ex #[.int .u8 17, .int .u8 (x : Int), .int .u8 (y : Int), .int .u8 (n : Int), .int .u8 (b : Int), .int .u16 (a : Int)]
  rw [← hOC.out]
  obtain ⟨C1, hC1⟩ : ∃ z, Hid (z = C.setIfInBounds 16 (.int .u16 (a : Int))) := ⟨_, (rfl : C.setIfInBounds 16 (.int .u16 (a : Int)) = _)⟩
  have hS1 : Hid (C1.size = 23) := by show _ = _; rw [hC1.out, Array.size_setIfInBounds]; exact gC.out
  have eR : Hid (doG g ⟨17, x, y, n, b, a⟩ f d = ({ g with i := a }, 1)) := by
    show _ = _
    rfl
  rw [eR.out]
  have hxx : Hid (x < 16 ∧ y < 16 ∧ b < 256 ∧ a < 65536) := ⟨hx, hy, hb, ha⟩
  clear hx hy hb ha hp hq lp lq
  go_enter Tryz.func31, Tryz.ntmps31
  go_wp2_with (first
    | ((with_reducible refine at_st rtG (w.heap.size + 4) ZC C1 ?_ ?_ ?_ ?_ (.tmp 8) (.tmp 196) ?_ ?_ ?_ ?_ ?_); exact K1.out.1.bx 4 _ _ _ rfl; exact hZ'.out; exact hS1.out; exact K1.out.2.lies.size.2.1; rfl; rfl; rfl; rfl; intro yE HE; have KE : Hid (Fm w [(w.heap.size, C1, 27), (w.heap.size + 1, OC, 60), (w.heap.size + 2, D, 30), (w.heap.size + 3, (dCs d), 38), (w.heap.size + 4, C1, 27)] yE ∧ GO B yE C1 { g with i := a }) := ⟨K1.out.1.put 4 _ _ _ _ rfl HE.out, (K1.out.2).offT (K1.out.1.bx 4 _ _ _ rfl) (by decide) (by decide) HE.out.2.2⟩; clear HE)
    | ((with_reducible refine gen_world (y0.setCell ⟨w.heap.size, 16, none⟩ (.int .u16 (a : Int))) (fun yy => Fm w [(w.heap.size, C1, 27), (w.heap.size + 1, OC, 60), (w.heap.size + 2, D, 30), (w.heap.size + 3, (dCs d), 38), (w.heap.size + 4, ZC, 27)] yy ∧ GO B yy C1 { g with i := a }) ?_ ?_); (exact ⟨K0.out.1.setCell 0 _ _ _ _ rfl 16 _ hC1.out.symm, (by have h := ((K0.out.2).offT (K0.out.1.bx 0 _ _ _ rfl) (by decide) (by decide) (fun q' hq' => heap_setCell_other y0 ⟨w.heap.size, 16, none⟩ q' (.int .u16 (a : Int)) hq')); have h' := h.ri a hxx.out.2.2.2; rw [hC1.out]; exact h')⟩); intro y1 K1; clear z1)
    | ((with_reducible refine gen_world (((((w.alloc (.cells C 27)).alloc (.cells OC 60)).alloc (.cells D 30)).alloc (.cells (dCs d) 38)).alloc (.cells z23A 27)) (fun y => Fm w [(w.heap.size, C, 27), (w.heap.size + 1, OC, 60), (w.heap.size + 2, D, 30), (w.heap.size + 3, (dCs d), 38), (w.heap.size + 4, ZC, 27)] y ∧ GO B y C g) ?_ ?_); (rw [hZ.out]; unfold gZ; exact ⟨Fm.five w _ _ _ _ _ _ _ _ _ _, hG.out.below (Fm.five w _ _ _ _ _ _ _ _ _ _).low⟩); intro y0 K0; obtain ⟨v1, v2, e0, e1, e2, e4, e5⟩ := five_cells (K := 17) K0.out.1 fV.out hOC.out; have s1 := (K0.out.1.bx 0 _ _ _ rfl).c 16 _ hG.out.rest.1; have z1 := (K0.out.1.bx 0 _ _ _ rfl).fz 16)
    | ((with_reducible refine at_load rtG w.heap.size C1 ?_ ?_ (.tmp 4) ?_ ?_ ?_ ?_); exact K1.out.1.bx 0 _ _ _ rfl; exact hS1.out; kernel_rfl; rfl; rfl))
  exact ret_two rtG rfl rfl rfl (KE.out.1.bx 4 _ _ _ rfl) hS1.out rfl ⟨C1, rfl, ⟨KE.out.2, BK.ofLow KE.out.1.low hB.out⟩⟩
theorem rdo_jumpby (w : World) (B : Nat) (C D : Array Value) (g : Gm) (f : Fo) (d : Fd) (hG : Hid (GO B w C g)) (hB : Hid (B ≤ w.heap.size)) (hf : Hid (FL w D f)) (hd : Hid d.Ok) (x y n b a : Nat) (hx : x < 16) (hy : y < 16) (hb : b < 256) (ha : a < 65536) :
    Calls Tryz.prog 31 #[.agg C, .agg #[.int .u8 18, .int .u8 (x : Int), .int .u8 (y : Int), .int .u8 (n : Int), .int .u8 (b : Int), .int .u16 (a : Int)], .agg D, .agg (dCs d)] w (RdE B w (doG g ⟨18, x, y, n, b, a⟩ f d)) := by
  obtain ⟨ZC, p, q, gC, gD, hZ, hZ', hp, hq, lp, lq, fV, ixx, ixy, ixi, iyi, ibi, iai, ipi, iqi⟩ := pre_do w B C D g f x y b a hG hf hx hy hb ha
  obtain ⟨OC, hOC⟩ := hid_ex #[.int .u8 18, .int .u8 (x : Int), .int .u8 (y : Int), .int .u8 (n : Int), .int .u8 (b : Int), .int .u16 (a : Int)]
  rw [← hOC.out]
  obtain ⟨p0, hp0⟩ : ∃ z, (g.v.getD 0 0).toNat = z := ⟨_, rfl⟩
  have f0 : Hid (C[0]? = some (.int .u8 (p0 : Int))) := by rw [← hp0]; exact hG.out.vR 0 (by decide)
  have ix0 := fun v => idxV w.heap.size .i64 0 v (by decide)
  rw [show ((0 : Nat) : Int) = 0 from rfl] at ix0
  have lp0 : p0 < 256 := by rw [← hp0]; exact UInt8.toNat_lt _
  have ip0 : (p0 : Int) < 256 := by omega
  obtain ⟨A, hA⟩ : ∃ z, (a + p0) % 65536 = z := ⟨_, rfl⟩
  have hA' : Hid (A < 65536) := by show A < 65536; omega
  have wA : IntKind.u16.wrap ((a : Int) + (p0 : Int)) = (A : Int) := by rw [IntKind.wrap_u16]; omega
  have wA' : ((a : Int) + (p0 : Int)) % 65536 = (A : Int) := by omega
  obtain ⟨C1, hC1⟩ : ∃ z, Hid (z = C.setIfInBounds 17 (.int .u16 (A : Int))) := ⟨_, (rfl : C.setIfInBounds 17 (.int .u16 (A : Int)) = _)⟩
  have hS1 : Hid (C1.size = 23) := by show _ = _; rw [hC1.out, Array.size_setIfInBounds]; exact gC.out
  have eR : Hid (doG g ⟨18, x, y, n, b, a⟩ f d = ({ g with pc := A }, 1)) := by
    show _ = _
    (rw [← hA, ← hp0]; rfl)
  rw [eR.out]
  have hxx : Hid (x < 16 ∧ y < 16 ∧ b < 256 ∧ a < 65536) := ⟨hx, hy, hb, ha⟩
  clear hx hy hb ha hp hq lp lq lp0 hA hp0
  go_enter Tryz.func31, Tryz.ntmps31
  go_wp2_with (first
    | ((with_reducible refine at_st rtG (w.heap.size + 4) ZC C1 ?_ ?_ ?_ ?_ (.tmp 8) (.tmp 196) ?_ ?_ ?_ ?_ ?_); exact K1.out.1.bx 4 _ _ _ rfl; exact hZ'.out; exact hS1.out; exact K1.out.2.lies.size.2.1; rfl; rfl; rfl; rfl; intro yE HE; have KE : Hid (Fm w [(w.heap.size, C1, 27), (w.heap.size + 1, OC, 60), (w.heap.size + 2, D, 30), (w.heap.size + 3, (dCs d), 38), (w.heap.size + 4, C1, 27)] yE ∧ GO B yE C1 { g with pc := A }) := ⟨K1.out.1.put 4 _ _ _ _ rfl HE.out, (K1.out.2).offT (K1.out.1.bx 4 _ _ _ rfl) (by decide) (by decide) HE.out.2.2⟩; clear HE)
    | ((with_reducible refine gen_world (y0.setCell ⟨w.heap.size, 17, none⟩ (.int .u16 (A : Int))) (fun yy => Fm w [(w.heap.size, C1, 27), (w.heap.size + 1, OC, 60), (w.heap.size + 2, D, 30), (w.heap.size + 3, (dCs d), 38), (w.heap.size + 4, ZC, 27)] yy ∧ GO B yy C1 { g with pc := A }) ?_ ?_); (exact ⟨K0.out.1.setCell 0 _ _ _ _ rfl 17 _ hC1.out.symm, (by have h := ((K0.out.2).offT (K0.out.1.bx 0 _ _ _ rfl) (by decide) (by decide) (fun q' hq' => heap_setCell_other y0 ⟨w.heap.size, 17, none⟩ q' (.int .u16 (A : Int)) hq')); have h' := h.rpc A hA'.out; rw [hC1.out]; exact h')⟩); intro y1 K1; clear z1)
    | ((with_reducible refine gen_world (((((w.alloc (.cells C 27)).alloc (.cells OC 60)).alloc (.cells D 30)).alloc (.cells (dCs d) 38)).alloc (.cells z23A 27)) (fun y => Fm w [(w.heap.size, C, 27), (w.heap.size + 1, OC, 60), (w.heap.size + 2, D, 30), (w.heap.size + 3, (dCs d), 38), (w.heap.size + 4, ZC, 27)] y ∧ GO B y C g) ?_ ?_); (rw [hZ.out]; unfold gZ; exact ⟨Fm.five w _ _ _ _ _ _ _ _ _ _, hG.out.below (Fm.five w _ _ _ _ _ _ _ _ _ _).low⟩); intro y0 K0; obtain ⟨v1, v2, e0, e1, e2, e4, e5⟩ := five_cells (K := 18) K0.out.1 fV.out hOC.out; have s1 := (K0.out.1.bx 0 _ _ _ rfl).c 17 _ hG.out.rest.2.1; have z1 := (K0.out.1.bx 0 _ _ _ rfl).fz 17; have v0 := (K0.out.1.bx 0 _ _ _ rfl).c 0 _ f0.out)
    | ((with_reducible refine at_load rtG w.heap.size C1 ?_ ?_ (.tmp 4) ?_ ?_ ?_ ?_); exact K1.out.1.bx 0 _ _ _ rfl; exact hS1.out; kernel_rfl; rfl; rfl))
  exact ret_two rtG rfl rfl rfl (KE.out.1.bx 4 _ _ _ rfl) hS1.out rfl ⟨C1, rfl, ⟨KE.out.2, BK.ofLow KE.out.1.low hB.out⟩⟩
theorem rdo_set (w : World) (B : Nat) (C D : Array Value) (g : Gm) (f : Fo) (d : Fd) (hG : Hid (GO B w C g)) (hB : Hid (B ≤ w.heap.size)) (hf : Hid (FL w D f)) (hd : Hid d.Ok) (x y n b a : Nat) (hx : x < 16) (hy : y < 16) (hb : b < 256) (ha : a < 65536) :
    Calls Tryz.prog 31 #[.agg C, .agg #[.int .u8 9, .int .u8 (x : Int), .int .u8 (y : Int), .int .u8 (n : Int), .int .u8 (b : Int), .int .u16 (a : Int)], .agg D, .agg (dCs d)] w (RdE B w (doG g ⟨9, x, y, n, b, a⟩ f d)) := by
  obtain ⟨ZC, p, q, gC, gD, hZ, hZ', hp, hq, lp, lq, fV, ixx, ixy, ixi, iyi, ibi, iai, ipi, iqi⟩ := pre_do w B C D g f x y b a hG hf hx hy hb ha
  obtain ⟨OC, hOC⟩ := hid_ex #[.int .u8 9, .int .u8 (x : Int), .int .u8 (y : Int), .int .u8 (n : Int), .int .u8 (b : Int), .int .u16 (a : Int)]
  rw [← hOC.out]
  obtain ⟨C1, hC1⟩ : ∃ z, Hid (z = C.setIfInBounds x (.int .u8 (b : Int))) := ⟨_, (rfl : C.setIfInBounds x (.int .u8 (b : Int)) = _)⟩
  have hS1 : Hid (C1.size = 23) := by show _ = _; rw [hC1.out, Array.size_setIfInBounds]; exact gC.out
  have eR : Hid (doG g ⟨9, x, y, n, b, a⟩ f d = ((setG g x (UInt8.ofNat b)), 1)) := by
    show _ = _
    rfl
  rw [eR.out]
  have hxx : Hid (x < 16 ∧ y < 16 ∧ b < 256 ∧ a < 65536) := ⟨hx, hy, hb, ha⟩
  clear hx hy hb ha hp hq lp lq
  go_enter Tryz.func31, Tryz.ntmps31
  go_wp2_with (first
    | ((with_reducible refine at_st rtG (w.heap.size + 4) ZC C1 ?_ ?_ ?_ ?_ (.tmp 8) (.tmp 196) ?_ ?_ ?_ ?_ ?_); exact K1.out.1.bx 4 _ _ _ rfl; exact hZ'.out; exact hS1.out; exact K1.out.2.lies.size.2.1; rfl; rfl; rfl; rfl; intro yE HE; have KE : Hid (Fm w [(w.heap.size, C1, 27), (w.heap.size + 1, OC, 60), (w.heap.size + 2, D, 30), (w.heap.size + 3, (dCs d), 38), (w.heap.size + 4, C1, 27)] yE ∧ GO B yE C1 (setG g x (UInt8.ofNat b))) := ⟨K1.out.1.put 4 _ _ _ _ rfl HE.out, (K1.out.2).offT (K1.out.1.bx 4 _ _ _ rfl) (by decide) (by decide) HE.out.2.2⟩; clear HE)
    | ((with_reducible refine gen_world (y0.setCell ⟨w.heap.size, x, none⟩ (.int .u8 (b : Int))) (fun yy => Fm w [(w.heap.size, C1, 27), (w.heap.size + 1, OC, 60), (w.heap.size + 2, D, 30), (w.heap.size + 3, (dCs d), 38), (w.heap.size + 4, ZC, 27)] yy ∧ GO B yy C1 (setG g x (UInt8.ofNat b))) ?_ ?_); (exact ⟨K0.out.1.setCell 0 _ _ _ _ rfl x _ hC1.out.symm, (by have h := ((K0.out.2).offT (K0.out.1.bx 0 _ _ _ rfl) (by decide) (by decide) (fun q' hq' => heap_setCell_other y0 ⟨w.heap.size, x, none⟩ q' (.int .u8 (b : Int)) hq')); have h' := h.rv x hxx.out.1 (UInt8.ofNat b); rw [hC1.out]; rw [show (UInt8.ofNat b).toNat = b from ofB hxx.out.2.2.1] at h'; exact h')⟩); intro y1 K1; clear z1)
    | ((with_reducible refine gen_world (((((w.alloc (.cells C 27)).alloc (.cells OC 60)).alloc (.cells D 30)).alloc (.cells (dCs d) 38)).alloc (.cells z23A 27)) (fun y => Fm w [(w.heap.size, C, 27), (w.heap.size + 1, OC, 60), (w.heap.size + 2, D, 30), (w.heap.size + 3, (dCs d), 38), (w.heap.size + 4, ZC, 27)] y ∧ GO B y C g) ?_ ?_); (rw [hZ.out]; unfold gZ; exact ⟨Fm.five w _ _ _ _ _ _ _ _ _ _, hG.out.below (Fm.five w _ _ _ _ _ _ _ _ _ _).low⟩); intro y0 K0; obtain ⟨v1, v2, e0, e1, e2, e4, e5⟩ := five_cells (K := 9) K0.out.1 fV.out hOC.out; have z1 := (K0.out.1.bx 0 _ _ _ rfl).fz x)
    | ((with_reducible refine at_load rtG w.heap.size C1 ?_ ?_ (.tmp 4) ?_ ?_ ?_ ?_); exact K1.out.1.bx 0 _ _ _ rfl; exact hS1.out; kernel_rfl; rfl; rfl))
  exact ret_two rtG rfl rfl rfl (KE.out.1.bx 4 _ _ _ rfl) hS1.out rfl ⟨C1, rfl, ⟨KE.out.2, BK.ofLow KE.out.1.low hB.out⟩⟩
theorem rdo_add (w : World) (B : Nat) (C D : Array Value) (g : Gm) (f : Fo) (d : Fd) (hG : Hid (GO B w C g)) (hB : Hid (B ≤ w.heap.size)) (hf : Hid (FL w D f)) (hd : Hid d.Ok) (x y n b a : Nat) (hx : x < 16) (hy : y < 16) (hb : b < 256) (ha : a < 65536) :
    Calls Tryz.prog 31 #[.agg C, .agg #[.int .u8 10, .int .u8 (x : Int), .int .u8 (y : Int), .int .u8 (n : Int), .int .u8 (b : Int), .int .u16 (a : Int)], .agg D, .agg (dCs d)] w (RdE B w (doG g ⟨10, x, y, n, b, a⟩ f d)) := by
  obtain ⟨ZC, p, q, gC, gD, hZ, hZ', hp, hq, lp, lq, fV, ixx, ixy, ixi, iyi, ibi, iai, ipi, iqi⟩ := pre_do w B C D g f x y b a hG hf hx hy hb ha
  obtain ⟨OC, hOC⟩ := hid_ex #[.int .u8 10, .int .u8 (x : Int), .int .u8 (y : Int), .int .u8 (n : Int), .int .u8 (b : Int), .int .u16 (a : Int)]
  rw [← hOC.out]
  obtain ⟨R, hR⟩ : ∃ z, (g.v.getD x 0 + UInt8.ofNat b).toNat = z := ⟨_, rfl⟩
  have wR : ((p : Int) + (b : Int)) % 256 = (R : Int) := by rw [← hR, UInt8.toNat_add, ofB hb, hp]; omega
  have wR' : IntKind.u8.wrap ((p : Int) + (b : Int)) = (R : Int) := by rw [IntKind.wrap_u8]; exact wR
  have hR' : Hid ((g.v.getD x 0 + UInt8.ofNat b).toNat = R) := hR
  obtain ⟨C1, hC1⟩ : ∃ z, Hid (z = C.setIfInBounds x (.int .u8 (R : Int))) := ⟨_, (rfl : C.setIfInBounds x (.int .u8 (R : Int)) = _)⟩
  have hS1 : Hid (C1.size = 23) := by show _ = _; rw [hC1.out, Array.size_setIfInBounds]; exact gC.out
  have eR : Hid (doG g ⟨10, x, y, n, b, a⟩ f d = ((setG g x (g.v.getD x 0 + UInt8.ofNat b)), 1)) := by
    show _ = _
    rfl
  rw [eR.out]
  have hxx : Hid (x < 16 ∧ y < 16 ∧ b < 256 ∧ a < 65536) := ⟨hx, hy, hb, ha⟩
  clear hx hy hb ha hp hq lp lq hR
  go_enter Tryz.func31, Tryz.ntmps31
  go_wp2_with (first
    | ((with_reducible refine at_st rtG (w.heap.size + 4) ZC C1 ?_ ?_ ?_ ?_ (.tmp 8) (.tmp 196) ?_ ?_ ?_ ?_ ?_); exact K1.out.1.bx 4 _ _ _ rfl; exact hZ'.out; exact hS1.out; exact K1.out.2.lies.size.2.1; rfl; rfl; rfl; rfl; intro yE HE; have KE : Hid (Fm w [(w.heap.size, C1, 27), (w.heap.size + 1, OC, 60), (w.heap.size + 2, D, 30), (w.heap.size + 3, (dCs d), 38), (w.heap.size + 4, C1, 27)] yE ∧ GO B yE C1 (setG g x (g.v.getD x 0 + UInt8.ofNat b))) := ⟨K1.out.1.put 4 _ _ _ _ rfl HE.out, (K1.out.2).offT (K1.out.1.bx 4 _ _ _ rfl) (by decide) (by decide) HE.out.2.2⟩; clear HE)
    | ((with_reducible refine gen_world (y0.setCell ⟨w.heap.size, x, none⟩ (.int .u8 (R : Int))) (fun yy => Fm w [(w.heap.size, C1, 27), (w.heap.size + 1, OC, 60), (w.heap.size + 2, D, 30), (w.heap.size + 3, (dCs d), 38), (w.heap.size + 4, ZC, 27)] yy ∧ GO B yy C1 (setG g x (g.v.getD x 0 + UInt8.ofNat b))) ?_ ?_); (exact ⟨K0.out.1.setCell 0 _ _ _ _ rfl x _ hC1.out.symm, (by have h := ((K0.out.2).offT (K0.out.1.bx 0 _ _ _ rfl) (by decide) (by decide) (fun q' hq' => heap_setCell_other y0 ⟨w.heap.size, x, none⟩ q' (.int .u8 (R : Int)) hq')); have h' := h.rv x hxx.out.1 (g.v.getD x 0 + UInt8.ofNat b); rw [hC1.out]; rw [hR'.out] at h'; exact h')⟩); intro y1 K1; clear z1)
    | ((with_reducible refine gen_world (((((w.alloc (.cells C 27)).alloc (.cells OC 60)).alloc (.cells D 30)).alloc (.cells (dCs d) 38)).alloc (.cells z23A 27)) (fun y => Fm w [(w.heap.size, C, 27), (w.heap.size + 1, OC, 60), (w.heap.size + 2, D, 30), (w.heap.size + 3, (dCs d), 38), (w.heap.size + 4, ZC, 27)] y ∧ GO B y C g) ?_ ?_); (rw [hZ.out]; unfold gZ; exact ⟨Fm.five w _ _ _ _ _ _ _ _ _ _, hG.out.below (Fm.five w _ _ _ _ _ _ _ _ _ _).low⟩); intro y0 K0; obtain ⟨v1, v2, e0, e1, e2, e4, e5⟩ := five_cells (K := 10) K0.out.1 fV.out hOC.out; have z1 := (K0.out.1.bx 0 _ _ _ rfl).fz x)
    | ((with_reducible refine at_load rtG w.heap.size C1 ?_ ?_ (.tmp 4) ?_ ?_ ?_ ?_); exact K1.out.1.bx 0 _ _ _ rfl; exact hS1.out; kernel_rfl; rfl; rfl))
  exact ret_two rtG rfl rfl rfl (KE.out.1.bx 4 _ _ _ rfl) hS1.out rfl ⟨C1, rfl, ⟨KE.out.2, BK.ofLow KE.out.1.low hB.out⟩⟩
theorem rdo_random (w : World) (B : Nat) (C D : Array Value) (g : Gm) (f : Fo) (d : Fd) (hG : Hid (GO B w C g)) (hB : Hid (B ≤ w.heap.size)) (hf : Hid (FL w D f)) (hd : Hid d.Ok) (x y n b a : Nat) (hx : x < 16) (hy : y < 16) (hb : b < 256) (ha : a < 65536) :
    Calls Tryz.prog 31 #[.agg C, .agg #[.int .u8 19, .int .u8 (x : Int), .int .u8 (y : Int), .int .u8 (n : Int), .int .u8 (b : Int), .int .u16 (a : Int)], .agg D, .agg (dCs d)] w (RdE B w (doG g ⟨19, x, y, n, b, a⟩ f d)) := by
  obtain ⟨ZC, p, q, gC, gD, hZ, hZ', hp, hq, lp, lq, fV, ixx, ixy, ixi, iyi, ibi, iai, ipi, iqi⟩ := pre_do w B C D g f x y b a hG hf hx hy hb ha
  obtain ⟨OC, hOC⟩ := hid_ex #[.int .u8 19, .int .u8 (x : Int), .int .u8 (y : Int), .int .u8 (n : Int), .int .u8 (b : Int), .int .u16 (a : Int)]
  rw [← hOC.out]
  obtain ⟨R, hR⟩ : ∃ z, (d.rn &&& UInt8.ofNat b).toNat = z := ⟨_, rfl⟩
  obtain ⟨rn, hrn⟩ : ∃ z, d.rn.toNat = z := ⟨_, rfl⟩
  have wR : bits .and .u8 (rn : Int) (b : Int) = (R : Int) := by rw [← hR, ← hrn]; have := and8 d.rn (UInt8.ofNat b); rw [ofB hb] at this; exact this
  have hR' : Hid ((d.rn &&& UInt8.ofNat b).toNat = R) := hR
  have hrn' : Hid ((dCs d)[0]? = some (.int .u8 (rn : Int))) := by rw [← hrn]; exact (rfl : _ = _)
  obtain ⟨C1, hC1⟩ : ∃ z, Hid (z = C.setIfInBounds x (.int .u8 (R : Int))) := ⟨_, (rfl : C.setIfInBounds x (.int .u8 (R : Int)) = _)⟩
  have hS1 : Hid (C1.size = 23) := by show _ = _; rw [hC1.out, Array.size_setIfInBounds]; exact gC.out
  have eR : Hid (doG g ⟨19, x, y, n, b, a⟩ f d = ((setG g x (d.rn &&& UInt8.ofNat b)), 1)) := by
    show _ = _
    rfl
  rw [eR.out]
  have hxx : Hid (x < 16 ∧ y < 16 ∧ b < 256 ∧ a < 65536) := ⟨hx, hy, hb, ha⟩
  clear hx hy hb ha hp hq lp lq hR hrn
  go_enter Tryz.func31, Tryz.ntmps31
  go_wp2_with (first
    | ((with_reducible refine at_st rtG (w.heap.size + 4) ZC C1 ?_ ?_ ?_ ?_ (.tmp 8) (.tmp 196) ?_ ?_ ?_ ?_ ?_); exact K1.out.1.bx 4 _ _ _ rfl; exact hZ'.out; exact hS1.out; exact K1.out.2.lies.size.2.1; rfl; rfl; rfl; rfl; intro yE HE; have KE : Hid (Fm w [(w.heap.size, C1, 27), (w.heap.size + 1, OC, 60), (w.heap.size + 2, D, 30), (w.heap.size + 3, (dCs d), 38), (w.heap.size + 4, C1, 27)] yE ∧ GO B yE C1 (setG g x (d.rn &&& UInt8.ofNat b))) := ⟨K1.out.1.put 4 _ _ _ _ rfl HE.out, (K1.out.2).offT (K1.out.1.bx 4 _ _ _ rfl) (by decide) (by decide) HE.out.2.2⟩; clear HE)
    | ((with_reducible refine gen_world (y0.setCell ⟨w.heap.size, x, none⟩ (.int .u8 (R : Int))) (fun yy => Fm w [(w.heap.size, C1, 27), (w.heap.size + 1, OC, 60), (w.heap.size + 2, D, 30), (w.heap.size + 3, (dCs d), 38), (w.heap.size + 4, ZC, 27)] yy ∧ GO B yy C1 (setG g x (d.rn &&& UInt8.ofNat b))) ?_ ?_); (exact ⟨K0.out.1.setCell 0 _ _ _ _ rfl x _ hC1.out.symm, (by have h := ((K0.out.2).offT (K0.out.1.bx 0 _ _ _ rfl) (by decide) (by decide) (fun q' hq' => heap_setCell_other y0 ⟨w.heap.size, x, none⟩ q' (.int .u8 (R : Int)) hq')); have h' := h.rv x hxx.out.1 (d.rn &&& UInt8.ofNat b); rw [hC1.out]; rw [hR'.out] at h'; exact h')⟩); intro y1 K1; clear z1)
    | ((with_reducible refine gen_world (((((w.alloc (.cells C 27)).alloc (.cells OC 60)).alloc (.cells D 30)).alloc (.cells (dCs d) 38)).alloc (.cells z23A 27)) (fun y => Fm w [(w.heap.size, C, 27), (w.heap.size + 1, OC, 60), (w.heap.size + 2, D, 30), (w.heap.size + 3, (dCs d), 38), (w.heap.size + 4, ZC, 27)] y ∧ GO B y C g) ?_ ?_); (rw [hZ.out]; unfold gZ; exact ⟨Fm.five w _ _ _ _ _ _ _ _ _ _, hG.out.below (Fm.five w _ _ _ _ _ _ _ _ _ _).low⟩); intro y0 K0; obtain ⟨v1, v2, e0, e1, e2, e4, e5⟩ := five_cells (K := 19) K0.out.1 fV.out hOC.out; have z1 := (K0.out.1.bx 0 _ _ _ rfl).fz x; have r0 := (K0.out.1.bx 3 _ _ _ rfl).c 0 _ hrn'.out)
    | ((with_reducible refine at_load rtG w.heap.size C1 ?_ ?_ (.tmp 4) ?_ ?_ ?_ ?_); exact K1.out.1.bx 0 _ _ _ rfl; exact hS1.out; kernel_rfl; rfl; rfl))
  exact ret_two rtG rfl rfl rfl (KE.out.1.bx 4 _ _ _ rfl) hS1.out rfl ⟨C1, rfl, ⟨KE.out.2, BK.ofLow KE.out.1.low hB.out⟩⟩
end Go.Proofs.YteipjkjpeookaaaGreat
