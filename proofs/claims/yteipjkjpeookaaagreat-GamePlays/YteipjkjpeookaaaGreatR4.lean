/- The document's own: sums; a machine that skips. -/
import Derived.Test.YteipjkjpeookaaaGreatJ28
namespace Go.Proofs.YteipjkjpeookaaaGreat
open Go Go.RowKit Go.Shelf
set_option linter.unusedVariables false
set_option maxHeartbeats 1000000
set_option maxRecDepth 100000

theorem skipG_any (w : World) (B : Nat) (C : Array Value) (g : Gm) (h : GO B w C g) (b : Bool) : Calls Tryz.prog 67 #[.agg C, .bool b] w fun e w' => ∃ C', e = .returned (.agg C') ∧ Hid (GO B w' C' (skipG g b) ∧ Below w.heap.size w w') := by
  have h0 := h
  obtain ⟨⟨vS, vP, vM, e, h1, h2, h3, h4⟩, ok⟩ := h
  obtain ⟨s1, c1, e1, _⟩ := OwnL.open kWord.len h1
  obtain ⟨s2, c2, e2, _⟩ := OwnL.open kByte.len h2
  obtain ⟨s3, c3, e3, _⟩ := OwnL.open kByte.len h3
  rw [e, e1, e2, e3]
  refine (skipped_any w _ _ _ _ _ _ _ _ _ _ _ _ _ _ b ok.pc).mono ?_
  rintro e' w' ⟨rfl, hb⟩
  refine ⟨_, rfl, ⟨?_, hb⟩⟩
  have h5 := h0.below hb
  rw [e, e1, e2, e3] at h5
  cases b
  · exact h5
  · exact h5.rpc ((g.pc + 2) % 65536) (Nat.mod_lt _ (by decide))
theorem rsums_move (w : World) (B : Nat) (C : Array Value) (g : Gm) (hG : Hid (GO B w C g)) (hB : Hid (B ≤ w.heap.size)) (x y n b a p q : Nat) (hx : x < 16) (hy : y < 16) (hp : (g.v.getD x 0).toNat = p) (hq : (g.v.getD y 0).toNat = q) (OC : Array Value) (hOC : Hid (OC = #[.int .u8 11, .int .u8 (x : Int), .int .u8 (y : Int), .int .u8 (n : Int), .int .u8 (b : Int), .int .u16 (a : Int)])) :
    Calls Tryz.prog 68 #[.agg C, .agg OC, .int .u8 (p : Int), .int .u8 (q : Int)] w fun e w' => ∃ C', e = .returned (.agg C') ∧ Hid (GO B w' C' (setG g x (g.v.getD y 0)) ∧ Below w.heap.size w w') := by
  have gC : Hid (C.size = 23) := hG.out.lies.size.1
  obtain ⟨ZC, hZ⟩ : ∃ x : Array Value, Hid (x = gZ) := ⟨_, (rfl : gZ = gZ)⟩
  have hZ' : Hid (ZC.size = 23) := by show _ = _; rw [hZ.out]; rfl
  have lp : p < 256 := by rw [← hp]; exact UInt8.toNat_lt _
  have lq : q < 256 := by rw [← hq]; exact UInt8.toNat_lt _
  have ixx := fun v => idxV w.heap.size .u8 x v hx
  have ix15 := fun v => idxV w.heap.size .i64 15 v (by decide)
  rw [show ((15 : Nat) : Int) = 15 from rfl] at ix15
  have ixi : (x : Int) < 16 := by omega
  have ipi : (p : Int) < 256 := by omega
  have iqi : (q : Int) < 256 := by omega
  have hx' : Hid (x < 16) := hx
  have hpp : Hid ((g.v.getD x 0).toNat = p) := hp
  have hqq : Hid ((g.v.getD y 0).toNat = q) := hq
  obtain ⟨C1, hC1⟩ : ∃ z, Hid (z = C.setIfInBounds x (.int .u8 (q : Int))) := ⟨_, (rfl : C.setIfInBounds x (.int .u8 (q : Int)) = _)⟩
  have hov1 : Hid (C[x]? = some (.int .u8 (p : Int))) := by rw [← hp]; exact hG.out.vR x hx
  have hS1 : Hid (C1.size = 23) := by show _ = _; rw [hC1.out, Array.size_setIfInBounds]; exact gC.out
  clear hx hy hp hq lp lq
  go_enter Tryz.func68, Tryz.ntmps68
  go_wp2_with (first
    | ((with_reducible refine at_st rtG (w.heap.size + 2) ZC C1 ?_ ?_ ?_ ?_ (.tmp 8) (.tmp 73) ?_ ?_ ?_ ?_ ?_); exact K1.out.1.bx 2 _ _ _ rfl; exact hZ'.out; exact hS1.out; exact K1.out.2.lies.size.2.1; rfl; rfl; rfl; rfl; intro yE HE; have KE : Hid (Fm w [(w.heap.size, C1, 27), (w.heap.size + 1, OC, 60), (w.heap.size + 2, C1, 27)] yE ∧ GO B yE C1 (setG g x (g.v.getD y 0))) := ⟨K1.out.1.put 2 _ _ _ _ rfl HE.out, (K1.out.2).offT (K1.out.1.bx 2 _ _ _ rfl) (by decide) (by decide) HE.out.2.2⟩; clear HE)
    | ((with_reducible refine gen_world (y0.setCell ⟨w.heap.size, x, none⟩ (.int .u8 (q : Int))) (fun yy => Fm w [(w.heap.size, C1, 27), (w.heap.size + 1, OC, 60), (w.heap.size + 2, ZC, 27)] yy ∧ GO B yy C1 (setG g x (g.v.getD y 0))) ?_ ?_); (exact ⟨K0.out.1.setCell 0 _ _ _ _ rfl x _ hC1.out.symm, (by have h := ((K0.out.2).offT (K0.out.1.bx 0 _ _ _ rfl) (by decide) (by decide) (fun q' hq' => heap_setCell_other y0 ⟨w.heap.size, x, none⟩ q' (.int .u8 (q : Int)) hq')); have h' := h.rv x hx'.out (g.v.getD y 0); rw [hC1.out]; rw [hqq.out] at h'; exact h')⟩); intro y1 K1; clear s1 z1)
    | ((with_reducible refine gen_world (((w.alloc (.cells C 27)).alloc (.cells OC 60)).alloc (.cells z23A 27)) (fun y => Fm w [(w.heap.size, C, 27), (w.heap.size + 1, OC, 60), (w.heap.size + 2, ZC, 27)] y ∧ GO B y C g) ?_ ?_); (rw [hZ.out]; unfold gZ; exact ⟨Fm.three w _ _ _ _ _ _, hG.out.below (Fm.three w _ _ _ _ _ _).low⟩); intro y0 K0; have e0 := (K0.out.1.bx 1 _ _ _ rfl).c 0 (.int .u8 11) (by rw [hOC.out]; rfl); have e1 := (K0.out.1.bx 1 _ _ _ rfl).c 1 (.int .u8 (x : Int)) (by rw [hOC.out]; rfl); have s1 := (K0.out.1.bx 0 _ _ _ rfl).c x _ hov1.out; have z1 := (K0.out.1.bx 0 _ _ _ rfl).fz x)
    | ((with_reducible refine at_load rtG w.heap.size C1 ?_ ?_ (.tmp 4) ?_ ?_ ?_ ?_); exact K1.out.1.bx 0 _ _ _ rfl; exact hS1.out; kernel_rfl; rfl; rfl))
  exact ret_row rtG rfl rfl (KE.out.1.bx 2 _ _ _ rfl) hS1.out rfl ⟨C1, rfl, ⟨KE.out.2, KE.out.1.low⟩⟩
theorem rsums_or (w : World) (B : Nat) (C : Array Value) (g : Gm) (hG : Hid (GO B w C g)) (hB : Hid (B ≤ w.heap.size)) (x y n b a p q : Nat) (hx : x < 16) (hy : y < 16) (hp : (g.v.getD x 0).toNat = p) (hq : (g.v.getD y 0).toNat = q) (OC : Array Value) (hOC : Hid (OC = #[.int .u8 12, .int .u8 (x : Int), .int .u8 (y : Int), .int .u8 (n : Int), .int .u8 (b : Int), .int .u16 (a : Int)])) :
    Calls Tryz.prog 68 #[.agg C, .agg OC, .int .u8 (p : Int), .int .u8 (q : Int)] w fun e w' => ∃ C', e = .returned (.agg C') ∧ Hid (GO B w' C' (setG (setG g x ((g.v.getD x 0) ||| (g.v.getD y 0))) 15 0) ∧ Below w.heap.size w w') := by
  have gC : Hid (C.size = 23) := hG.out.lies.size.1
  obtain ⟨ZC, hZ⟩ : ∃ x : Array Value, Hid (x = gZ) := ⟨_, (rfl : gZ = gZ)⟩
  have hZ' : Hid (ZC.size = 23) := by show _ = _; rw [hZ.out]; rfl
  have lp : p < 256 := by rw [← hp]; exact UInt8.toNat_lt _
  have lq : q < 256 := by rw [← hq]; exact UInt8.toNat_lt _
  have ixx := fun v => idxV w.heap.size .u8 x v hx
  have ix15 := fun v => idxV w.heap.size .i64 15 v (by decide)
  rw [show ((15 : Nat) : Int) = 15 from rfl] at ix15
  have ixi : (x : Int) < 16 := by omega
  have ipi : (p : Int) < 256 := by omega
  have iqi : (q : Int) < 256 := by omega
  have hx' : Hid (x < 16) := hx
  have hpp : Hid ((g.v.getD x 0).toNat = p) := hp
  have hqq : Hid ((g.v.getD y 0).toNat = q) := hq
  obtain ⟨R, hR⟩ : ∃ z, ((g.v.getD x 0) ||| (g.v.getD y 0)).toNat = z := ⟨_, rfl⟩
  have hR' : Hid (((g.v.getD x 0) ||| (g.v.getD y 0)).toNat = R) := hR
  have wR : bits .or .u8 (p : Int) (q : Int) = (R : Int) := by rw [← hR, ← hp, ← hq]; exact or8 _ _
  obtain ⟨C1, hC1⟩ : ∃ z, Hid (z = C.setIfInBounds x (.int .u8 (R : Int))) := ⟨_, (rfl : C.setIfInBounds x (.int .u8 (R : Int)) = _)⟩
  have hov1 : Hid (C[x]? = some (.int .u8 (p : Int))) := by rw [← hp]; exact hG.out.vR x hx
  have hS1 : Hid (C1.size = 23) := by show _ = _; rw [hC1.out, Array.size_setIfInBounds]; exact gC.out
  obtain ⟨C2, hC2⟩ : ∃ z, Hid (z = C1.setIfInBounds 15 (.int .u8 0)) := ⟨_, (rfl : C1.setIfInBounds 15 (.int .u8 0) = _)⟩
  obtain ⟨z15, h15⟩ : ∃ z : Nat, Hid (C1[15]? = some (.int .u8 (z : Int))) := ⟨(((setG g x ((g.v.getD x 0) ||| (g.v.getD y 0)))).v.getD 15 0).toNat, (by show C1[15]? = _; have h := hG.out; have h' := h.rv x hx'.out ((g.v.getD x 0) ||| (g.v.getD y 0)); have h2 := h'.vR 15 (by decide); rw [hC1.out]; rw [hR'.out] at h2; exact h2)⟩
  have hS2 : Hid (C2.size = 23) := by show _ = _; rw [hC2.out, Array.size_setIfInBounds]; exact hS1.out
  clear hx hy hp hq lp lq hR
  go_enter Tryz.func68, Tryz.ntmps68
  go_wp2_with (first
    | ((with_reducible refine at_st rtG (w.heap.size + 2) ZC C2 ?_ ?_ ?_ ?_ (.tmp 8) (.tmp 73) ?_ ?_ ?_ ?_ ?_); exact K2.out.1.bx 2 _ _ _ rfl; exact hZ'.out; exact hS2.out; exact K2.out.2.lies.size.2.1; rfl; rfl; rfl; rfl; intro yE HE; have KE : Hid (Fm w [(w.heap.size, C2, 27), (w.heap.size + 1, OC, 60), (w.heap.size + 2, C2, 27)] yE ∧ GO B yE C2 (setG (setG g x ((g.v.getD x 0) ||| (g.v.getD y 0))) 15 0)) := ⟨K2.out.1.put 2 _ _ _ _ rfl HE.out, (K2.out.2).offT (K2.out.1.bx 2 _ _ _ rfl) (by decide) (by decide) HE.out.2.2⟩; clear HE)
    | ((with_reducible refine gen_world (y1.setCell ⟨w.heap.size, 15, none⟩ (.int .u8 0)) (fun yy => Fm w [(w.heap.size, C2, 27), (w.heap.size + 1, OC, 60), (w.heap.size + 2, ZC, 27)] yy ∧ GO B yy C2 (setG (setG g x ((g.v.getD x 0) ||| (g.v.getD y 0))) 15 0)) ?_ ?_); (exact ⟨K1.out.1.setCell 0 _ _ _ _ rfl 15 _ hC2.out.symm, (by have h := ((K1.out.2).offT (K1.out.1.bx 0 _ _ _ rfl) (by decide) (by decide) (fun q' hq' => heap_setCell_other y1 ⟨w.heap.size, 15, none⟩ q' (.int .u8 0) hq')); have h' := h.rv 15 (by decide) 0; rw [hC2.out]; exact h')⟩); intro y2 K2; clear s2 z2)
    | ((with_reducible refine gen_world (y0.setCell ⟨w.heap.size, x, none⟩ (.int .u8 (R : Int))) (fun yy => Fm w [(w.heap.size, C1, 27), (w.heap.size + 1, OC, 60), (w.heap.size + 2, ZC, 27)] yy ∧ GO B yy C1 (setG g x ((g.v.getD x 0) ||| (g.v.getD y 0)))) ?_ ?_); (exact ⟨K0.out.1.setCell 0 _ _ _ _ rfl x _ hC1.out.symm, (by have h := ((K0.out.2).offT (K0.out.1.bx 0 _ _ _ rfl) (by decide) (by decide) (fun q' hq' => heap_setCell_other y0 ⟨w.heap.size, x, none⟩ q' (.int .u8 (R : Int)) hq')); have h' := h.rv x hx'.out ((g.v.getD x 0) ||| (g.v.getD y 0)); rw [hC1.out]; rw [hR'.out] at h'; exact h')⟩); intro y1 K1; clear s1 z1; have s2 := (K1.out.1.bx 0 _ _ _ rfl).c 15 _ h15.out; have z2 := (K1.out.1.bx 0 _ _ _ rfl).fz 15)
    | ((with_reducible refine gen_world (((w.alloc (.cells C 27)).alloc (.cells OC 60)).alloc (.cells z23A 27)) (fun y => Fm w [(w.heap.size, C, 27), (w.heap.size + 1, OC, 60), (w.heap.size + 2, ZC, 27)] y ∧ GO B y C g) ?_ ?_); (rw [hZ.out]; unfold gZ; exact ⟨Fm.three w _ _ _ _ _ _, hG.out.below (Fm.three w _ _ _ _ _ _).low⟩); intro y0 K0; have e0 := (K0.out.1.bx 1 _ _ _ rfl).c 0 (.int .u8 12) (by rw [hOC.out]; rfl); have e1 := (K0.out.1.bx 1 _ _ _ rfl).c 1 (.int .u8 (x : Int)) (by rw [hOC.out]; rfl); have s1 := (K0.out.1.bx 0 _ _ _ rfl).c x _ hov1.out; have z1 := (K0.out.1.bx 0 _ _ _ rfl).fz x)
    | ((with_reducible refine at_load rtG w.heap.size C2 ?_ ?_ (.tmp 4) ?_ ?_ ?_ ?_); exact K2.out.1.bx 0 _ _ _ rfl; exact hS2.out; kernel_rfl; rfl; rfl))
  exact ret_row rtG rfl rfl (KE.out.1.bx 2 _ _ _ rfl) hS2.out rfl ⟨C2, rfl, ⟨KE.out.2, KE.out.1.low⟩⟩
theorem rsums_and (w : World) (B : Nat) (C : Array Value) (g : Gm) (hG : Hid (GO B w C g)) (hB : Hid (B ≤ w.heap.size)) (x y n b a p q : Nat) (hx : x < 16) (hy : y < 16) (hp : (g.v.getD x 0).toNat = p) (hq : (g.v.getD y 0).toNat = q) (OC : Array Value) (hOC : Hid (OC = #[.int .u8 13, .int .u8 (x : Int), .int .u8 (y : Int), .int .u8 (n : Int), .int .u8 (b : Int), .int .u16 (a : Int)])) :
    Calls Tryz.prog 68 #[.agg C, .agg OC, .int .u8 (p : Int), .int .u8 (q : Int)] w fun e w' => ∃ C', e = .returned (.agg C') ∧ Hid (GO B w' C' (setG (setG g x ((g.v.getD x 0) &&& (g.v.getD y 0))) 15 0) ∧ Below w.heap.size w w') := by
  have gC : Hid (C.size = 23) := hG.out.lies.size.1
  obtain ⟨ZC, hZ⟩ : ∃ x : Array Value, Hid (x = gZ) := ⟨_, (rfl : gZ = gZ)⟩
  have hZ' : Hid (ZC.size = 23) := by show _ = _; rw [hZ.out]; rfl
  have lp : p < 256 := by rw [← hp]; exact UInt8.toNat_lt _
  have lq : q < 256 := by rw [← hq]; exact UInt8.toNat_lt _
  have ixx := fun v => idxV w.heap.size .u8 x v hx
  have ix15 := fun v => idxV w.heap.size .i64 15 v (by decide)
  rw [show ((15 : Nat) : Int) = 15 from rfl] at ix15
  have ixi : (x : Int) < 16 := by omega
  have ipi : (p : Int) < 256 := by omega
  have iqi : (q : Int) < 256 := by omega
  have hx' : Hid (x < 16) := hx
  have hpp : Hid ((g.v.getD x 0).toNat = p) := hp
  have hqq : Hid ((g.v.getD y 0).toNat = q) := hq
  obtain ⟨R, hR⟩ : ∃ z, ((g.v.getD x 0) &&& (g.v.getD y 0)).toNat = z := ⟨_, rfl⟩
  have hR' : Hid (((g.v.getD x 0) &&& (g.v.getD y 0)).toNat = R) := hR
  have wR : bits .and .u8 (p : Int) (q : Int) = (R : Int) := by rw [← hR, ← hp, ← hq]; exact and8 _ _
  obtain ⟨C1, hC1⟩ : ∃ z, Hid (z = C.setIfInBounds x (.int .u8 (R : Int))) := ⟨_, (rfl : C.setIfInBounds x (.int .u8 (R : Int)) = _)⟩
  have hov1 : Hid (C[x]? = some (.int .u8 (p : Int))) := by rw [← hp]; exact hG.out.vR x hx
  have hS1 : Hid (C1.size = 23) := by show _ = _; rw [hC1.out, Array.size_setIfInBounds]; exact gC.out
  obtain ⟨C2, hC2⟩ : ∃ z, Hid (z = C1.setIfInBounds 15 (.int .u8 0)) := ⟨_, (rfl : C1.setIfInBounds 15 (.int .u8 0) = _)⟩
  obtain ⟨z15, h15⟩ : ∃ z : Nat, Hid (C1[15]? = some (.int .u8 (z : Int))) := ⟨(((setG g x ((g.v.getD x 0) &&& (g.v.getD y 0)))).v.getD 15 0).toNat, (by show C1[15]? = _; have h := hG.out; have h' := h.rv x hx'.out ((g.v.getD x 0) &&& (g.v.getD y 0)); have h2 := h'.vR 15 (by decide); rw [hC1.out]; rw [hR'.out] at h2; exact h2)⟩
  have hS2 : Hid (C2.size = 23) := by show _ = _; rw [hC2.out, Array.size_setIfInBounds]; exact hS1.out
  clear hx hy hp hq lp lq hR
  go_enter Tryz.func68, Tryz.ntmps68
  go_wp2_with (first
    | ((with_reducible refine at_st rtG (w.heap.size + 2) ZC C2 ?_ ?_ ?_ ?_ (.tmp 8) (.tmp 73) ?_ ?_ ?_ ?_ ?_); exact K2.out.1.bx 2 _ _ _ rfl; exact hZ'.out; exact hS2.out; exact K2.out.2.lies.size.2.1; rfl; rfl; rfl; rfl; intro yE HE; have KE : Hid (Fm w [(w.heap.size, C2, 27), (w.heap.size + 1, OC, 60), (w.heap.size + 2, C2, 27)] yE ∧ GO B yE C2 (setG (setG g x ((g.v.getD x 0) &&& (g.v.getD y 0))) 15 0)) := ⟨K2.out.1.put 2 _ _ _ _ rfl HE.out, (K2.out.2).offT (K2.out.1.bx 2 _ _ _ rfl) (by decide) (by decide) HE.out.2.2⟩; clear HE)
    | ((with_reducible refine gen_world (y1.setCell ⟨w.heap.size, 15, none⟩ (.int .u8 0)) (fun yy => Fm w [(w.heap.size, C2, 27), (w.heap.size + 1, OC, 60), (w.heap.size + 2, ZC, 27)] yy ∧ GO B yy C2 (setG (setG g x ((g.v.getD x 0) &&& (g.v.getD y 0))) 15 0)) ?_ ?_); (exact ⟨K1.out.1.setCell 0 _ _ _ _ rfl 15 _ hC2.out.symm, (by have h := ((K1.out.2).offT (K1.out.1.bx 0 _ _ _ rfl) (by decide) (by decide) (fun q' hq' => heap_setCell_other y1 ⟨w.heap.size, 15, none⟩ q' (.int .u8 0) hq')); have h' := h.rv 15 (by decide) 0; rw [hC2.out]; exact h')⟩); intro y2 K2; clear s2 z2)
    | ((with_reducible refine gen_world (y0.setCell ⟨w.heap.size, x, none⟩ (.int .u8 (R : Int))) (fun yy => Fm w [(w.heap.size, C1, 27), (w.heap.size + 1, OC, 60), (w.heap.size + 2, ZC, 27)] yy ∧ GO B yy C1 (setG g x ((g.v.getD x 0) &&& (g.v.getD y 0)))) ?_ ?_); (exact ⟨K0.out.1.setCell 0 _ _ _ _ rfl x _ hC1.out.symm, (by have h := ((K0.out.2).offT (K0.out.1.bx 0 _ _ _ rfl) (by decide) (by decide) (fun q' hq' => heap_setCell_other y0 ⟨w.heap.size, x, none⟩ q' (.int .u8 (R : Int)) hq')); have h' := h.rv x hx'.out ((g.v.getD x 0) &&& (g.v.getD y 0)); rw [hC1.out]; rw [hR'.out] at h'; exact h')⟩); intro y1 K1; clear s1 z1; have s2 := (K1.out.1.bx 0 _ _ _ rfl).c 15 _ h15.out; have z2 := (K1.out.1.bx 0 _ _ _ rfl).fz 15)
    | ((with_reducible refine gen_world (((w.alloc (.cells C 27)).alloc (.cells OC 60)).alloc (.cells z23A 27)) (fun y => Fm w [(w.heap.size, C, 27), (w.heap.size + 1, OC, 60), (w.heap.size + 2, ZC, 27)] y ∧ GO B y C g) ?_ ?_); (rw [hZ.out]; unfold gZ; exact ⟨Fm.three w _ _ _ _ _ _, hG.out.below (Fm.three w _ _ _ _ _ _).low⟩); intro y0 K0; have e0 := (K0.out.1.bx 1 _ _ _ rfl).c 0 (.int .u8 13) (by rw [hOC.out]; rfl); have e1 := (K0.out.1.bx 1 _ _ _ rfl).c 1 (.int .u8 (x : Int)) (by rw [hOC.out]; rfl); have s1 := (K0.out.1.bx 0 _ _ _ rfl).c x _ hov1.out; have z1 := (K0.out.1.bx 0 _ _ _ rfl).fz x)
    | ((with_reducible refine at_load rtG w.heap.size C2 ?_ ?_ (.tmp 4) ?_ ?_ ?_ ?_); exact K2.out.1.bx 0 _ _ _ rfl; exact hS2.out; kernel_rfl; rfl; rfl))
  exact ret_row rtG rfl rfl (KE.out.1.bx 2 _ _ _ rfl) hS2.out rfl ⟨C2, rfl, ⟨KE.out.2, KE.out.1.low⟩⟩
theorem rsums_plus (w : World) (B : Nat) (C : Array Value) (g : Gm) (hG : Hid (GO B w C g)) (hB : Hid (B ≤ w.heap.size)) (x y n b a p q : Nat) (hx : x < 16) (hy : y < 16) (hp : (g.v.getD x 0).toNat = p) (hq : (g.v.getD y 0).toNat = q) (OC : Array Value) (hOC : Hid (OC = #[.int .u8 14, .int .u8 (x : Int), .int .u8 (y : Int), .int .u8 (n : Int), .int .u8 (b : Int), .int .u16 (a : Int)])) :
    Calls Tryz.prog 68 #[.agg C, .agg OC, .int .u8 (p : Int), .int .u8 (q : Int)] w fun e w' => ∃ C', e = .returned (.agg C') ∧ Hid (GO B w' C' (setG (setG g x ((g.v.getD x 0) + (g.v.getD y 0))) 15 (oneG (decide (255 < (g.v.getD x 0).toNat + (g.v.getD y 0).toNat)))) ∧ Below w.heap.size w w') := by
  have gC : Hid (C.size = 23) := hG.out.lies.size.1
  obtain ⟨ZC, hZ⟩ : ∃ x : Array Value, Hid (x = gZ) := ⟨_, (rfl : gZ = gZ)⟩
  have hZ' : Hid (ZC.size = 23) := by show _ = _; rw [hZ.out]; rfl
  have lp : p < 256 := by rw [← hp]; exact UInt8.toNat_lt _
  have lq : q < 256 := by rw [← hq]; exact UInt8.toNat_lt _
  have ixx := fun v => idxV w.heap.size .u8 x v hx
  have ix15 := fun v => idxV w.heap.size .i64 15 v (by decide)
  rw [show ((15 : Nat) : Int) = 15 from rfl] at ix15
  have ixi : (x : Int) < 16 := by omega
  have ipi : (p : Int) < 256 := by omega
  have iqi : (q : Int) < 256 := by omega
  have hx' : Hid (x < 16) := hx
  have hpp : Hid ((g.v.getD x 0).toNat = p) := hp
  have hqq : Hid ((g.v.getD y 0).toNat = q) := hq
  obtain ⟨R, hR⟩ : ∃ z, ((g.v.getD x 0) + (g.v.getD y 0)).toNat = z := ⟨_, rfl⟩
  have hR' : Hid (((g.v.getD x 0) + (g.v.getD y 0)).toNat = R) := hR
  have wR : ((p : Int) + (q : Int)) % 256 = (R : Int) := by rw [← hR, UInt8.toNat_add, hp, hq]; omega
  have wR' : IntKind.u8.wrap ((p : Int) + (q : Int)) = (R : Int) := by rw [IntKind.wrap_u8]; exact wR
  obtain ⟨OB, hOB⟩ : ∃ z, (decide (255 < (g.v.getD x 0).toNat + (g.v.getD y 0).toNat)) = z := ⟨_, rfl⟩
  obtain ⟨OV, hOV0⟩ : ∃ z, (oneG OB).toNat = z := ⟨_, rfl⟩
  have hOV : Hid (byV (oneG OB) = .int .u8 (OV : Int)) := by show byV _ = _; rw [← hOV0]; rfl
  have hOVn : Hid ((oneG OB).toNat = OV) := hOV0
  rw [hOB]
  have qO : decide ((255 : Int) < (p : Int) + (q : Int)) = OB := by rw [← hOB, hp, hq, decide_eq_decide]; omega
  obtain ⟨C1, hC1⟩ : ∃ z, Hid (z = C.setIfInBounds x (.int .u8 (R : Int))) := ⟨_, (rfl : C.setIfInBounds x (.int .u8 (R : Int)) = _)⟩
  have hov1 : Hid (C[x]? = some (.int .u8 (p : Int))) := by rw [← hp]; exact hG.out.vR x hx
  have hS1 : Hid (C1.size = 23) := by show _ = _; rw [hC1.out, Array.size_setIfInBounds]; exact gC.out
  obtain ⟨C2, hC2⟩ : ∃ z, Hid (z = C1.setIfInBounds 15 (.int .u8 (OV : Int))) := ⟨_, (rfl : C1.setIfInBounds 15 (.int .u8 (OV : Int)) = _)⟩
  obtain ⟨z15, h15⟩ : ∃ z : Nat, Hid (C1[15]? = some (.int .u8 (z : Int))) := ⟨(((setG g x ((g.v.getD x 0) + (g.v.getD y 0)))).v.getD 15 0).toNat, (by show C1[15]? = _; have h := hG.out; have h' := h.rv x hx'.out ((g.v.getD x 0) + (g.v.getD y 0)); have h2 := h'.vR 15 (by decide); rw [hC1.out]; rw [hR'.out] at h2; exact h2)⟩
  have hS2 : Hid (C2.size = 23) := by show _ = _; rw [hC2.out, Array.size_setIfInBounds]; exact hS1.out
  clear hx hy hp hq lp lq hR hOB hOV0
  go_enter Tryz.func68, Tryz.ntmps68
  go_wp2_with (first
    | ((with_reducible refine at_st rtG (w.heap.size + 2) ZC C2 ?_ ?_ ?_ ?_ (.tmp 8) (.tmp 73) ?_ ?_ ?_ ?_ ?_); exact K2.out.1.bx 2 _ _ _ rfl; exact hZ'.out; exact hS2.out; exact K2.out.2.lies.size.2.1; rfl; rfl; rfl; rfl; intro yE HE; have KE : Hid (Fm w [(w.heap.size, C2, 27), (w.heap.size + 1, OC, 60), (w.heap.size + 2, C2, 27)] yE ∧ GO B yE C2 (setG (setG g x ((g.v.getD x 0) + (g.v.getD y 0))) 15 (oneG OB))) := ⟨K2.out.1.put 2 _ _ _ _ rfl HE.out, (K2.out.2).offT (K2.out.1.bx 2 _ _ _ rfl) (by decide) (by decide) HE.out.2.2⟩; clear HE)
    | ((with_reducible refine gen_world (y1.setCell ⟨w.heap.size, 15, none⟩ (.int .u8 (OV : Int))) (fun yy => Fm w [(w.heap.size, C2, 27), (w.heap.size + 1, OC, 60), (w.heap.size + 2, ZC, 27)] yy ∧ GO B yy C2 (setG (setG g x ((g.v.getD x 0) + (g.v.getD y 0))) 15 (oneG OB))) ?_ ?_); (exact ⟨K1.out.1.setCell 0 _ _ _ _ rfl 15 _ hC2.out.symm, (by have h := ((K1.out.2).offT (K1.out.1.bx 0 _ _ _ rfl) (by decide) (by decide) (fun q' hq' => heap_setCell_other y1 ⟨w.heap.size, 15, none⟩ q' (.int .u8 (OV : Int)) hq')); have h' := h.rv 15 (by decide) (oneG OB); rw [hC2.out]; rw [hOVn.out] at h'; exact h')⟩); intro y2 K2; clear s2 z2)
    | (go_at_call 93; refine (one_any y1 OB).mono ?_; rintro e yp ⟨rfl, ep⟩; replace ep := ep.symm; subst ep; rw [hOV.out])
    | ((with_reducible refine gen_world (y0.setCell ⟨w.heap.size, x, none⟩ (.int .u8 (R : Int))) (fun yy => Fm w [(w.heap.size, C1, 27), (w.heap.size + 1, OC, 60), (w.heap.size + 2, ZC, 27)] yy ∧ GO B yy C1 (setG g x ((g.v.getD x 0) + (g.v.getD y 0)))) ?_ ?_); (exact ⟨K0.out.1.setCell 0 _ _ _ _ rfl x _ hC1.out.symm, (by have h := ((K0.out.2).offT (K0.out.1.bx 0 _ _ _ rfl) (by decide) (by decide) (fun q' hq' => heap_setCell_other y0 ⟨w.heap.size, x, none⟩ q' (.int .u8 (R : Int)) hq')); have h' := h.rv x hx'.out ((g.v.getD x 0) + (g.v.getD y 0)); rw [hC1.out]; rw [hR'.out] at h'; exact h')⟩); intro y1 K1; clear s1 z1; have s2 := (K1.out.1.bx 0 _ _ _ rfl).c 15 _ h15.out; have z2 := (K1.out.1.bx 0 _ _ _ rfl).fz 15)
    | ((with_reducible refine gen_world (((w.alloc (.cells C 27)).alloc (.cells OC 60)).alloc (.cells z23A 27)) (fun y => Fm w [(w.heap.size, C, 27), (w.heap.size + 1, OC, 60), (w.heap.size + 2, ZC, 27)] y ∧ GO B y C g) ?_ ?_); (rw [hZ.out]; unfold gZ; exact ⟨Fm.three w _ _ _ _ _ _, hG.out.below (Fm.three w _ _ _ _ _ _).low⟩); intro y0 K0; have e0 := (K0.out.1.bx 1 _ _ _ rfl).c 0 (.int .u8 14) (by rw [hOC.out]; rfl); have e1 := (K0.out.1.bx 1 _ _ _ rfl).c 1 (.int .u8 (x : Int)) (by rw [hOC.out]; rfl); have s1 := (K0.out.1.bx 0 _ _ _ rfl).c x _ hov1.out; have z1 := (K0.out.1.bx 0 _ _ _ rfl).fz x)
    | ((with_reducible refine at_load rtG w.heap.size C2 ?_ ?_ (.tmp 4) ?_ ?_ ?_ ?_); exact K2.out.1.bx 0 _ _ _ rfl; exact hS2.out; kernel_rfl; rfl; rfl))
  exact ret_row rtG rfl rfl (KE.out.1.bx 2 _ _ _ rfl) hS2.out rfl ⟨C2, rfl, ⟨KE.out.2, KE.out.1.low⟩⟩
theorem rsums_minus (w : World) (B : Nat) (C : Array Value) (g : Gm) (hG : Hid (GO B w C g)) (hB : Hid (B ≤ w.heap.size)) (x y n b a p q : Nat) (hx : x < 16) (hy : y < 16) (hp : (g.v.getD x 0).toNat = p) (hq : (g.v.getD y 0).toNat = q) (OC : Array Value) (hOC : Hid (OC = #[.int .u8 15, .int .u8 (x : Int), .int .u8 (y : Int), .int .u8 (n : Int), .int .u8 (b : Int), .int .u16 (a : Int)])) :
    Calls Tryz.prog 68 #[.agg C, .agg OC, .int .u8 (p : Int), .int .u8 (q : Int)] w fun e w' => ∃ C', e = .returned (.agg C') ∧ Hid (GO B w' C' (setG (setG g x ((g.v.getD x 0) - (g.v.getD y 0))) 15 (oneG (decide ((g.v.getD y 0).toNat ≤ (g.v.getD x 0).toNat)))) ∧ Below w.heap.size w w') := by
  have gC : Hid (C.size = 23) := hG.out.lies.size.1
  obtain ⟨ZC, hZ⟩ : ∃ x : Array Value, Hid (x = gZ) := ⟨_, (rfl : gZ = gZ)⟩
  have hZ' : Hid (ZC.size = 23) := by show _ = _; rw [hZ.out]; rfl
  have lp : p < 256 := by rw [← hp]; exact UInt8.toNat_lt _
  have lq : q < 256 := by rw [← hq]; exact UInt8.toNat_lt _
  have ixx := fun v => idxV w.heap.size .u8 x v hx
  have ix15 := fun v => idxV w.heap.size .i64 15 v (by decide)
  rw [show ((15 : Nat) : Int) = 15 from rfl] at ix15
  have ixi : (x : Int) < 16 := by omega
  have ipi : (p : Int) < 256 := by omega
  have iqi : (q : Int) < 256 := by omega
  have hx' : Hid (x < 16) := hx
  have hpp : Hid ((g.v.getD x 0).toNat = p) := hp
  have hqq : Hid ((g.v.getD y 0).toNat = q) := hq
  obtain ⟨R, hR⟩ : ∃ z, ((g.v.getD x 0) - (g.v.getD y 0)).toNat = z := ⟨_, rfl⟩
  have hR' : Hid (((g.v.getD x 0) - (g.v.getD y 0)).toNat = R) := hR
  have wR : ((p : Int) - (q : Int)) % 256 = (R : Int) := by rw [← hR, UInt8.toNat_sub, hp, hq]; omega
  have wR' : IntKind.u8.wrap ((p : Int) - (q : Int)) = (R : Int) := by rw [IntKind.wrap_u8]; exact wR
  obtain ⟨OB, hOB⟩ : ∃ z, (decide ((g.v.getD y 0).toNat ≤ (g.v.getD x 0).toNat)) = z := ⟨_, rfl⟩
  obtain ⟨OV, hOV0⟩ : ∃ z, (oneG OB).toNat = z := ⟨_, rfl⟩
  have hOV : Hid (byV (oneG OB) = .int .u8 (OV : Int)) := by show byV _ = _; rw [← hOV0]; rfl
  have hOVn : Hid ((oneG OB).toNat = OV) := hOV0
  rw [hOB]
  have qO : decide ((q : Int) ≤ (p : Int)) = OB := by rw [← hOB, hp, hq, decide_eq_decide]; omega
  have qO2 : decide (q ≤ p) = OB := by rw [← hOB, hp, hq]
  obtain ⟨C1, hC1⟩ : ∃ z, Hid (z = C.setIfInBounds x (.int .u8 (R : Int))) := ⟨_, (rfl : C.setIfInBounds x (.int .u8 (R : Int)) = _)⟩
  have hov1 : Hid (C[x]? = some (.int .u8 (p : Int))) := by rw [← hp]; exact hG.out.vR x hx
  have hS1 : Hid (C1.size = 23) := by show _ = _; rw [hC1.out, Array.size_setIfInBounds]; exact gC.out
  obtain ⟨C2, hC2⟩ : ∃ z, Hid (z = C1.setIfInBounds 15 (.int .u8 (OV : Int))) := ⟨_, (rfl : C1.setIfInBounds 15 (.int .u8 (OV : Int)) = _)⟩
  obtain ⟨z15, h15⟩ : ∃ z : Nat, Hid (C1[15]? = some (.int .u8 (z : Int))) := ⟨(((setG g x ((g.v.getD x 0) - (g.v.getD y 0)))).v.getD 15 0).toNat, (by show C1[15]? = _; have h := hG.out; have h' := h.rv x hx'.out ((g.v.getD x 0) - (g.v.getD y 0)); have h2 := h'.vR 15 (by decide); rw [hC1.out]; rw [hR'.out] at h2; exact h2)⟩
  have hS2 : Hid (C2.size = 23) := by show _ = _; rw [hC2.out, Array.size_setIfInBounds]; exact hS1.out
  clear hx hy hp hq lp lq hR hOB hOV0
  go_enter Tryz.func68, Tryz.ntmps68
  go_wp2_with (first
    | ((with_reducible refine at_st rtG (w.heap.size + 2) ZC C2 ?_ ?_ ?_ ?_ (.tmp 8) (.tmp 73) ?_ ?_ ?_ ?_ ?_); exact K2.out.1.bx 2 _ _ _ rfl; exact hZ'.out; exact hS2.out; exact K2.out.2.lies.size.2.1; rfl; rfl; rfl; rfl; intro yE HE; have KE : Hid (Fm w [(w.heap.size, C2, 27), (w.heap.size + 1, OC, 60), (w.heap.size + 2, C2, 27)] yE ∧ GO B yE C2 (setG (setG g x ((g.v.getD x 0) - (g.v.getD y 0))) 15 (oneG OB))) := ⟨K2.out.1.put 2 _ _ _ _ rfl HE.out, (K2.out.2).offT (K2.out.1.bx 2 _ _ _ rfl) (by decide) (by decide) HE.out.2.2⟩; clear HE)
    | ((with_reducible refine gen_world (y1.setCell ⟨w.heap.size, 15, none⟩ (.int .u8 (OV : Int))) (fun yy => Fm w [(w.heap.size, C2, 27), (w.heap.size + 1, OC, 60), (w.heap.size + 2, ZC, 27)] yy ∧ GO B yy C2 (setG (setG g x ((g.v.getD x 0) - (g.v.getD y 0))) 15 (oneG OB))) ?_ ?_); (exact ⟨K1.out.1.setCell 0 _ _ _ _ rfl 15 _ hC2.out.symm, (by have h := ((K1.out.2).offT (K1.out.1.bx 0 _ _ _ rfl) (by decide) (by decide) (fun q' hq' => heap_setCell_other y1 ⟨w.heap.size, 15, none⟩ q' (.int .u8 (OV : Int)) hq')); have h' := h.rv 15 (by decide) (oneG OB); rw [hC2.out]; rw [hOVn.out] at h'; exact h')⟩); intro y2 K2; clear s2 z2)
    | (go_at_call 93; refine (one_any y1 OB).mono ?_; rintro e yp ⟨rfl, ep⟩; replace ep := ep.symm; subst ep; rw [hOV.out])
    | ((with_reducible refine gen_world (y0.setCell ⟨w.heap.size, x, none⟩ (.int .u8 (R : Int))) (fun yy => Fm w [(w.heap.size, C1, 27), (w.heap.size + 1, OC, 60), (w.heap.size + 2, ZC, 27)] yy ∧ GO B yy C1 (setG g x ((g.v.getD x 0) - (g.v.getD y 0)))) ?_ ?_); (exact ⟨K0.out.1.setCell 0 _ _ _ _ rfl x _ hC1.out.symm, (by have h := ((K0.out.2).offT (K0.out.1.bx 0 _ _ _ rfl) (by decide) (by decide) (fun q' hq' => heap_setCell_other y0 ⟨w.heap.size, x, none⟩ q' (.int .u8 (R : Int)) hq')); have h' := h.rv x hx'.out ((g.v.getD x 0) - (g.v.getD y 0)); rw [hC1.out]; rw [hR'.out] at h'; exact h')⟩); intro y1 K1; clear s1 z1; have s2 := (K1.out.1.bx 0 _ _ _ rfl).c 15 _ h15.out; have z2 := (K1.out.1.bx 0 _ _ _ rfl).fz 15)
    | ((with_reducible refine gen_world (((w.alloc (.cells C 27)).alloc (.cells OC 60)).alloc (.cells z23A 27)) (fun y => Fm w [(w.heap.size, C, 27), (w.heap.size + 1, OC, 60), (w.heap.size + 2, ZC, 27)] y ∧ GO B y C g) ?_ ?_); (rw [hZ.out]; unfold gZ; exact ⟨Fm.three w _ _ _ _ _ _, hG.out.below (Fm.three w _ _ _ _ _ _).low⟩); intro y0 K0; have e0 := (K0.out.1.bx 1 _ _ _ rfl).c 0 (.int .u8 15) (by rw [hOC.out]; rfl); have e1 := (K0.out.1.bx 1 _ _ _ rfl).c 1 (.int .u8 (x : Int)) (by rw [hOC.out]; rfl); have s1 := (K0.out.1.bx 0 _ _ _ rfl).c x _ hov1.out; have z1 := (K0.out.1.bx 0 _ _ _ rfl).fz x)
    | ((with_reducible refine at_load rtG w.heap.size C2 ?_ ?_ (.tmp 4) ?_ ?_ ?_ ?_); exact K2.out.1.bx 0 _ _ _ rfl; exact hS2.out; kernel_rfl; rfl; rfl))
  exact ret_row rtG rfl rfl (KE.out.1.bx 2 _ _ _ rfl) hS2.out rfl ⟨C2, rfl, ⟨KE.out.2, KE.out.1.low⟩⟩
end Go.Proofs.YteipjkjpeookaaaGreat
