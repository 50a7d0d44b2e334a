/- The document's own: do, its skips and sums. -/
import Derived.Test.YteipjkjpeookaaaGreatR4
namespace Go.Proofs.YteipjkjpeookaaaGreat
open Go Go.RowKit Go.Shelf
set_option linter.unusedVariables false
set_option maxHeartbeats 1000000
set_option maxRecDepth 100000

theorem u8_beq (a b : UInt8) : (a == b) = (a.toNat == b.toNat) := by
  rw [Bool.eq_iff_iff, beq_iff_eq, beq_iff_eq]
  exact UInt8.toNat_inj.symm
theorem beqI (a b : Nat) : ((a : Int) == (b : Int)) = (a == b) := by
  rw [Bool.eq_iff_iff, beq_iff_eq, beq_iff_eq]
  omega
theorem bneI (a b : Nat) : ((a : Int) != (b : Int)) = (a != b) := by
  unfold bne
  rw [beqI]
theorem decB_ (a b : Nat) : decide (a = b) = (a == b) := by
  rw [Bool.eq_iff_iff]
  simp
theorem rdo_skipis (w : World) (B : Nat) (C D : Array Value) (g : Gm) (f : Fo) (d : Fd) (hG : Hid (GO B w C g)) (hB : Hid (B ≤ w.heap.size)) (hf : Hid (FL w D f)) (hd : Hid d.Ok) (x y n b a : Nat) (hx : x < 16) (hy : y < 16) (hb : b < 256) (ha : a < 65536) :
    Calls Tryz.prog 31 #[.agg C, .agg #[.int .u8 6, .int .u8 (x : Int), .int .u8 (y : Int), .int .u8 (n : Int), .int .u8 (b : Int), .int .u16 (a : Int)], .agg D, .agg (dCs d)] w (RdE B w (doG g ⟨6, x, y, n, b, a⟩ f d)) := by
  obtain ⟨ZC, p, q, gC, gD, hZ, hZ', hp, hq, lp, lq, fV, ixx, ixy, ixi, iyi, ibi, iai, ipi, iqi⟩ := pre_do w B C D g f x y b a hG hf hx hy hb ha
  obtain ⟨OC, hOC⟩ := hid_ex #[.int .u8 6, .int .u8 (x : Int), .int .u8 (y : Int), .int .u8 (n : Int), .int .u8 (b : Int), .int .u16 (a : Int)]
  rw [← hOC.out]
  obtain ⟨SB, hSB⟩ : ∃ z, (p == b) = z := ⟨_, rfl⟩
  have r1 : ((p : Int) == (b : Int)) = SB := by rw [beqI]; exact hSB
  have r2 : decide (p = b) = SB := by rw [decB_]; exact hSB
  have eR : Hid (doG g ⟨6, x, y, n, b, a⟩ f d = ((skipG g SB), 1)) := by
    show _ = _
    (rw [← hSB, ← hp]; rfl)
  rw [eR.out]
  have hxx : Hid (x < 16 ∧ y < 16 ∧ b < 256 ∧ a < 65536) := ⟨hx, hy, hb, ha⟩
  have hpp : Hid ((g.v.getD x 0).toNat = p ∧ (g.v.getD y 0).toNat = q) := ⟨hp, hq⟩
  clear hx hy hb ha hp hq lp lq hSB
  go_enter Tryz.func31, Tryz.ntmps31
  go_wp2_with (first
    | ((with_reducible refine at_st rtG (w.heap.size + 4) ZC C1 ?_ ?_ ?_ ?_ (.tmp 8) (.tmp 196) ?_ ?_ ?_ ?_ ?_); exact K2.out.1.bx 4 _ _ _ rfl; exact hZ'.out; exact K2.out.2.lies.size.1; exact K2.out.2.lies.size.2.1; rfl; rfl; rfl; rfl; intro yE HE; have KE : Hid (Fm w [(w.heap.size, C1, 27), (w.heap.size + 1, OC, 60), (w.heap.size + 2, D, 30), (w.heap.size + 3, (dCs d), 38), (w.heap.size + 4, C1, 27)] yE ∧ GO B yE C1 (skipG g SB)) := ⟨K2.out.1.put 4 _ _ _ _ rfl HE.out, (K2.out.2).offT (K2.out.1.bx 4 _ _ _ rfl) (by decide) (by decide) HE.out.2.2⟩; clear HE)
    | ((with_reducible refine at_st rtG w.heap.size C C1 ?_ ?_ ?_ ?_ (.tmp 4) (.tmp 96) ?_ ?_ ?_ ?_ ?_); exact K1.out.1.bx 0 _ _ _ rfl; exact gC.out; exact K1.out.2.lies.size.1; exact K1.out.2.lies.size.2.1; rfl; rfl; rfl; rfl; intro y2 H2; have K2 : Hid (Fm w [(w.heap.size, C1, 27), (w.heap.size + 1, OC, 60), (w.heap.size + 2, D, 30), (w.heap.size + 3, (dCs d), 38), (w.heap.size + 4, ZC, 27)] y2 ∧ GO B y2 C1 (skipG g SB)) := ⟨K1.out.1.put 0 _ _ _ _ rfl H2.out, (K1.out.2).offT (K1.out.1.bx 0 _ _ _ rfl) (by decide) (by decide) H2.out.2.2⟩; clear H2)
    | (go_at_call 67; refine (skipG_any y0 B C g K0.out.2 SB).mono ?_; rintro e y1 ⟨C1, rfl, H⟩; have K1 : Hid (Fm w [(w.heap.size, C, 27), (w.heap.size + 1, OC, 60), (w.heap.size + 2, D, 30), (w.heap.size + 3, (dCs d), 38), (w.heap.size + 4, ZC, 27)] y1 ∧ GO B y1 C1 (skipG g SB)) := ⟨K0.out.1.below H.out.2, H.out.1⟩; clear H)
    | ((with_reducible refine gen_world (((((w.alloc (.cells C 27)).alloc (.cells OC 60)).alloc (.cells D 30)).alloc (.cells (dCs d) 38)).alloc (.cells z23A 27)) (fun y => Fm w [(w.heap.size, C, 27), (w.heap.size + 1, OC, 60), (w.heap.size + 2, D, 30), (w.heap.size + 3, (dCs d), 38), (w.heap.size + 4, ZC, 27)] y ∧ GO B y C g) ?_ ?_); (rw [hZ.out]; unfold gZ; exact ⟨Fm.five w _ _ _ _ _ _ _ _ _ _, hG.out.below (Fm.five w _ _ _ _ _ _ _ _ _ _).low⟩); intro y0 K0; obtain ⟨v1, v2, e0, e1, e2, e4, e5⟩ := five_cells (K := 6) K0.out.1 fV.out hOC.out)
    | ((with_reducible refine at_load rtG w.heap.size C1 ?_ ?_ (.tmp 4) ?_ ?_ ?_ ?_); exact K2.out.1.bx 0 _ _ _ rfl; exact K2.out.2.lies.size.1; kernel_rfl; rfl; rfl)
    | ((with_reducible refine at_load rtG w.heap.size C ?_ ?_ (.tmp 4) ?_ ?_ ?_ ?_); exact K0.out.1.bx 0 _ _ _ rfl; exact gC.out; kernel_rfl; rfl; rfl))
  exact ret_two rtG rfl rfl rfl (KE.out.1.bx 4 _ _ _ rfl) KE.out.2.lies.size.1 rfl ⟨C1, rfl, ⟨KE.out.2, BK.ofLow KE.out.1.low hB.out⟩⟩
theorem rdo_skipnot (w : World) (B : Nat) (C D : Array Value) (g : Gm) (f : Fo) (d : Fd) (hG : Hid (GO B w C g)) (hB : Hid (B ≤ w.heap.size)) (hf : Hid (FL w D f)) (hd : Hid d.Ok) (x y n b a : Nat) (hx : x < 16) (hy : y < 16) (hb : b < 256) (ha : a < 65536) :
    Calls Tryz.prog 31 #[.agg C, .agg #[.int .u8 7, .int .u8 (x : Int), .int .u8 (y : Int), .int .u8 (n : Int), .int .u8 (b : Int), .int .u16 (a : Int)], .agg D, .agg (dCs d)] w (RdE B w (doG g ⟨7, x, y, n, b, a⟩ f d)) := by
  obtain ⟨ZC, p, q, gC, gD, hZ, hZ', hp, hq, lp, lq, fV, ixx, ixy, ixi, iyi, ibi, iai, ipi, iqi⟩ := pre_do w B C D g f x y b a hG hf hx hy hb ha
  obtain ⟨OC, hOC⟩ := hid_ex #[.int .u8 7, .int .u8 (x : Int), .int .u8 (y : Int), .int .u8 (n : Int), .int .u8 (b : Int), .int .u16 (a : Int)]
  rw [← hOC.out]
  obtain ⟨SB, hSB⟩ : ∃ z, (p != b) = z := ⟨_, rfl⟩
  have r1 : ((p : Int) != (b : Int)) = SB := by rw [bneI]; exact hSB
  have r2 : (!decide (p = b)) = SB := by rw [decB_]; exact hSB
  have eR : Hid (doG g ⟨7, x, y, n, b, a⟩ f d = ((skipG g SB), 1)) := by
    show _ = _
    (rw [← hSB, ← hp]; rfl)
  rw [eR.out]
  have hxx : Hid (x < 16 ∧ y < 16 ∧ b < 256 ∧ a < 65536) := ⟨hx, hy, hb, ha⟩
  have hpp : Hid ((g.v.getD x 0).toNat = p ∧ (g.v.getD y 0).toNat = q) := ⟨hp, hq⟩
  clear hx hy hb ha hp hq lp lq hSB
  go_enter Tryz.func31, Tryz.ntmps31
  go_wp2_with (first
    | ((with_reducible refine at_st rtG (w.heap.size + 4) ZC C1 ?_ ?_ ?_ ?_ (.tmp 8) (.tmp 196) ?_ ?_ ?_ ?_ ?_); exact K2.out.1.bx 4 _ _ _ rfl; exact hZ'.out; exact K2.out.2.lies.size.1; exact K2.out.2.lies.size.2.1; rfl; rfl; rfl; rfl; intro yE HE; have KE : Hid (Fm w [(w.heap.size, C1, 27), (w.heap.size + 1, OC, 60), (w.heap.size + 2, D, 30), (w.heap.size + 3, (dCs d), 38), (w.heap.size + 4, C1, 27)] yE ∧ GO B yE C1 (skipG g SB)) := ⟨K2.out.1.put 4 _ _ _ _ rfl HE.out, (K2.out.2).offT (K2.out.1.bx 4 _ _ _ rfl) (by decide) (by decide) HE.out.2.2⟩; clear HE)
    | ((with_reducible refine at_st rtG w.heap.size C C1 ?_ ?_ ?_ ?_ (.tmp 4) (.tmp 104) ?_ ?_ ?_ ?_ ?_); exact K1.out.1.bx 0 _ _ _ rfl; exact gC.out; exact K1.out.2.lies.size.1; exact K1.out.2.lies.size.2.1; rfl; rfl; rfl; rfl; intro y2 H2; have K2 : Hid (Fm w [(w.heap.size, C1, 27), (w.heap.size + 1, OC, 60), (w.heap.size + 2, D, 30), (w.heap.size + 3, (dCs d), 38), (w.heap.size + 4, ZC, 27)] y2 ∧ GO B y2 C1 (skipG g SB)) := ⟨K1.out.1.put 0 _ _ _ _ rfl H2.out, (K1.out.2).offT (K1.out.1.bx 0 _ _ _ rfl) (by decide) (by decide) H2.out.2.2⟩; clear H2)
    | (go_at_call 67; refine (skipG_any y0 B C g K0.out.2 SB).mono ?_; rintro e y1 ⟨C1, rfl, H⟩; have K1 : Hid (Fm w [(w.heap.size, C, 27), (w.heap.size + 1, OC, 60), (w.heap.size + 2, D, 30), (w.heap.size + 3, (dCs d), 38), (w.heap.size + 4, ZC, 27)] y1 ∧ GO B y1 C1 (skipG g SB)) := ⟨K0.out.1.below H.out.2, H.out.1⟩; clear H)
    | ((with_reducible refine gen_world (((((w.alloc (.cells C 27)).alloc (.cells OC 60)).alloc (.cells D 30)).alloc (.cells (dCs d) 38)).alloc (.cells z23A 27)) (fun y => Fm w [(w.heap.size, C, 27), (w.heap.size + 1, OC, 60), (w.heap.size + 2, D, 30), (w.heap.size + 3, (dCs d), 38), (w.heap.size + 4, ZC, 27)] y ∧ GO B y C g) ?_ ?_); (rw [hZ.out]; unfold gZ; exact ⟨Fm.five w _ _ _ _ _ _ _ _ _ _, hG.out.below (Fm.five w _ _ _ _ _ _ _ _ _ _).low⟩); intro y0 K0; obtain ⟨v1, v2, e0, e1, e2, e4, e5⟩ := five_cells (K := 7) K0.out.1 fV.out hOC.out)
    | ((with_reducible refine at_load rtG w.heap.size C1 ?_ ?_ (.tmp 4) ?_ ?_ ?_ ?_); exact K2.out.1.bx 0 _ _ _ rfl; exact K2.out.2.lies.size.1; kernel_rfl; rfl; rfl)
    | ((with_reducible refine at_load rtG w.heap.size C ?_ ?_ (.tmp 4) ?_ ?_ ?_ ?_); exact K0.out.1.bx 0 _ _ _ rfl; exact gC.out; kernel_rfl; rfl; rfl))
  exact ret_two rtG rfl rfl rfl (KE.out.1.bx 4 _ _ _ rfl) KE.out.2.lies.size.1 rfl ⟨C1, rfl, ⟨KE.out.2, BK.ofLow KE.out.1.low hB.out⟩⟩
theorem rdo_skipsame (w : World) (B : Nat) (C D : Array Value) (g : Gm) (f : Fo) (d : Fd) (hG : Hid (GO B w C g)) (hB : Hid (B ≤ w.heap.size)) (hf : Hid (FL w D f)) (hd : Hid d.Ok) (x y n b a : Nat) (hx : x < 16) (hy : y < 16) (hb : b < 256) (ha : a < 65536) :
    Calls Tryz.prog 31 #[.agg C, .agg #[.int .u8 8, .int .u8 (x : Int), .int .u8 (y : Int), .int .u8 (n : Int), .int .u8 (b : Int), .int .u16 (a : Int)], .agg D, .agg (dCs d)] w (RdE B w (doG g ⟨8, x, y, n, b, a⟩ f d)) := by
  obtain ⟨ZC, p, q, gC, gD, hZ, hZ', hp, hq, lp, lq, fV, ixx, ixy, ixi, iyi, ibi, iai, ipi, iqi⟩ := pre_do w B C D g f x y b a hG hf hx hy hb ha
  obtain ⟨OC, hOC⟩ := hid_ex #[.int .u8 8, .int .u8 (x : Int), .int .u8 (y : Int), .int .u8 (n : Int), .int .u8 (b : Int), .int .u16 (a : Int)]
  rw [← hOC.out]
  obtain ⟨SB, hSB⟩ : ∃ z, (p == q) = z := ⟨_, rfl⟩
  have r1 : ((p : Int) == (q : Int)) = SB := by rw [beqI]; exact hSB
  have r2 : decide (p = q) = SB := by rw [decB_]; exact hSB
  have eR : Hid (doG g ⟨8, x, y, n, b, a⟩ f d = ((skipG g SB), 1)) := by
    show _ = _
    (rw [← hSB, ← hp, ← hq, ← u8_beq]; rfl)
  rw [eR.out]
  have hxx : Hid (x < 16 ∧ y < 16 ∧ b < 256 ∧ a < 65536) := ⟨hx, hy, hb, ha⟩
  have hpp : Hid ((g.v.getD x 0).toNat = p ∧ (g.v.getD y 0).toNat = q) := ⟨hp, hq⟩
  clear hx hy hb ha hp hq lp lq hSB
  go_enter Tryz.func31, Tryz.ntmps31
  go_wp2_with (first
    | ((with_reducible refine at_st rtG (w.heap.size + 4) ZC C1 ?_ ?_ ?_ ?_ (.tmp 8) (.tmp 196) ?_ ?_ ?_ ?_ ?_); exact K2.out.1.bx 4 _ _ _ rfl; exact hZ'.out; exact K2.out.2.lies.size.1; exact K2.out.2.lies.size.2.1; rfl; rfl; rfl; rfl; intro yE HE; have KE : Hid (Fm w [(w.heap.size, C1, 27), (w.heap.size + 1, OC, 60), (w.heap.size + 2, D, 30), (w.heap.size + 3, (dCs d), 38), (w.heap.size + 4, C1, 27)] yE ∧ GO B yE C1 (skipG g SB)) := ⟨K2.out.1.put 4 _ _ _ _ rfl HE.out, (K2.out.2).offT (K2.out.1.bx 4 _ _ _ rfl) (by decide) (by decide) HE.out.2.2⟩; clear HE)
    | ((with_reducible refine at_st rtG w.heap.size C C1 ?_ ?_ ?_ ?_ (.tmp 4) (.tmp 111) ?_ ?_ ?_ ?_ ?_); exact K1.out.1.bx 0 _ _ _ rfl; exact gC.out; exact K1.out.2.lies.size.1; exact K1.out.2.lies.size.2.1; rfl; rfl; rfl; rfl; intro y2 H2; have K2 : Hid (Fm w [(w.heap.size, C1, 27), (w.heap.size + 1, OC, 60), (w.heap.size + 2, D, 30), (w.heap.size + 3, (dCs d), 38), (w.heap.size + 4, ZC, 27)] y2 ∧ GO B y2 C1 (skipG g SB)) := ⟨K1.out.1.put 0 _ _ _ _ rfl H2.out, (K1.out.2).offT (K1.out.1.bx 0 _ _ _ rfl) (by decide) (by decide) H2.out.2.2⟩; clear H2)
    | (go_at_call 67; refine (skipG_any y0 B C g K0.out.2 SB).mono ?_; rintro e y1 ⟨C1, rfl, H⟩; have K1 : Hid (Fm w [(w.heap.size, C, 27), (w.heap.size + 1, OC, 60), (w.heap.size + 2, D, 30), (w.heap.size + 3, (dCs d), 38), (w.heap.size + 4, ZC, 27)] y1 ∧ GO B y1 C1 (skipG g SB)) := ⟨K0.out.1.below H.out.2, H.out.1⟩; clear H)
    | ((with_reducible refine gen_world (((((w.alloc (.cells C 27)).alloc (.cells OC 60)).alloc (.cells D 30)).alloc (.cells (dCs d) 38)).alloc (.cells z23A 27)) (fun y => Fm w [(w.heap.size, C, 27), (w.heap.size + 1, OC, 60), (w.heap.size + 2, D, 30), (w.heap.size + 3, (dCs d), 38), (w.heap.size + 4, ZC, 27)] y ∧ GO B y C g) ?_ ?_); (rw [hZ.out]; unfold gZ; exact ⟨Fm.five w _ _ _ _ _ _ _ _ _ _, hG.out.below (Fm.five w _ _ _ _ _ _ _ _ _ _).low⟩); intro y0 K0; obtain ⟨v1, v2, e0, e1, e2, e4, e5⟩ := five_cells (K := 8) K0.out.1 fV.out hOC.out)
    | ((with_reducible refine at_load rtG w.heap.size C1 ?_ ?_ (.tmp 4) ?_ ?_ ?_ ?_); exact K2.out.1.bx 0 _ _ _ rfl; exact K2.out.2.lies.size.1; kernel_rfl; rfl; rfl)
    | ((with_reducible refine at_load rtG w.heap.size C ?_ ?_ (.tmp 4) ?_ ?_ ?_ ?_); exact K0.out.1.bx 0 _ _ _ rfl; exact gC.out; kernel_rfl; rfl; rfl))
  exact ret_two rtG rfl rfl rfl (KE.out.1.bx 4 _ _ _ rfl) KE.out.2.lies.size.1 rfl ⟨C1, rfl, ⟨KE.out.2, BK.ofLow KE.out.1.low hB.out⟩⟩
theorem rdo_skipother (w : World) (B : Nat) (C D : Array Value) (g : Gm) (f : Fo) (d : Fd) (hG : Hid (GO B w C g)) (hB : Hid (B ≤ w.heap.size)) (hf : Hid (FL w D f)) (hd : Hid d.Ok) (x y n b a : Nat) (hx : x < 16) (hy : y < 16) (hb : b < 256) (ha : a < 65536) :
    Calls Tryz.prog 31 #[.agg C, .agg #[.int .u8 16, .int .u8 (x : Int), .int .u8 (y : Int), .int .u8 (n : Int), .int .u8 (b : Int), .int .u16 (a : Int)], .agg D, .agg (dCs d)] w (RdE B w (doG g ⟨16, x, y, n, b, a⟩ f d)) := by
  obtain ⟨ZC, p, q, gC, gD, hZ, hZ', hp, hq, lp, lq, fV, ixx, ixy, ixi, iyi, ibi, iai, ipi, iqi⟩ := pre_do w B C D g f x y b a hG hf hx hy hb ha
  obtain ⟨OC, hOC⟩ := hid_ex #[.int .u8 16, .int .u8 (x : Int), .int .u8 (y : Int), .int .u8 (n : Int), .int .u8 (b : Int), .int .u16 (a : Int)]
  rw [← hOC.out]
  obtain ⟨SB, hSB⟩ : ∃ z, (p != q) = z := ⟨_, rfl⟩
  have r1 : ((p : Int) != (q : Int)) = SB := by rw [bneI]; exact hSB
  have r2 : (!decide (p = q)) = SB := by rw [decB_]; exact hSB
  have eR : Hid (doG g ⟨16, x, y, n, b, a⟩ f d = ((skipG g SB), 1)) := by
    show _ = _
    (rw [← hSB, ← hp, ← hq]; show (skipG g (g.v.getD x 0 != g.v.getD y 0), 1) = _; unfold bne; rw [u8_beq])
  rw [eR.out]
  have hxx : Hid (x < 16 ∧ y < 16 ∧ b < 256 ∧ a < 65536) := ⟨hx, hy, hb, ha⟩
  have hpp : Hid ((g.v.getD x 0).toNat = p ∧ (g.v.getD y 0).toNat = q) := ⟨hp, hq⟩
  clear hx hy hb ha hp hq lp lq hSB
  go_enter Tryz.func31, Tryz.ntmps31
  go_wp2_with (first
    | ((with_reducible refine at_st rtG (w.heap.size + 4) ZC C1 ?_ ?_ ?_ ?_ (.tmp 8) (.tmp 196) ?_ ?_ ?_ ?_ ?_); exact K2.out.1.bx 4 _ _ _ rfl; exact hZ'.out; exact K2.out.2.lies.size.1; exact K2.out.2.lies.size.2.1; rfl; rfl; rfl; rfl; intro yE HE; have KE : Hid (Fm w [(w.heap.size, C1, 27), (w.heap.size + 1, OC, 60), (w.heap.size + 2, D, 30), (w.heap.size + 3, (dCs d), 38), (w.heap.size + 4, C1, 27)] yE ∧ GO B yE C1 (skipG g SB)) := ⟨K2.out.1.put 4 _ _ _ _ rfl HE.out, (K2.out.2).offT (K2.out.1.bx 4 _ _ _ rfl) (by decide) (by decide) HE.out.2.2⟩; clear HE)
    | ((with_reducible refine at_st rtG w.heap.size C C1 ?_ ?_ ?_ ?_ (.tmp 4) (.tmp 118) ?_ ?_ ?_ ?_ ?_); exact K1.out.1.bx 0 _ _ _ rfl; exact gC.out; exact K1.out.2.lies.size.1; exact K1.out.2.lies.size.2.1; rfl; rfl; rfl; rfl; intro y2 H2; have K2 : Hid (Fm w [(w.heap.size, C1, 27), (w.heap.size + 1, OC, 60), (w.heap.size + 2, D, 30), (w.heap.size + 3, (dCs d), 38), (w.heap.size + 4, ZC, 27)] y2 ∧ GO B y2 C1 (skipG g SB)) := ⟨K1.out.1.put 0 _ _ _ _ rfl H2.out, (K1.out.2).offT (K1.out.1.bx 0 _ _ _ rfl) (by decide) (by decide) H2.out.2.2⟩; clear H2)
    | (go_at_call 67; refine (skipG_any y0 B C g K0.out.2 SB).mono ?_; rintro e y1 ⟨C1, rfl, H⟩; have K1 : Hid (Fm w [(w.heap.size, C, 27), (w.heap.size + 1, OC, 60), (w.heap.size + 2, D, 30), (w.heap.size + 3, (dCs d), 38), (w.heap.size + 4, ZC, 27)] y1 ∧ GO B y1 C1 (skipG g SB)) := ⟨K0.out.1.below H.out.2, H.out.1⟩; clear H)
    | ((with_reducible refine gen_world (((((w.alloc (.cells C 27)).alloc (.cells OC 60)).alloc (.cells D 30)).alloc (.cells (dCs d) 38)).alloc (.cells z23A 27)) (fun y => Fm w [(w.heap.size, C, 27), (w.heap.size + 1, OC, 60), (w.heap.size + 2, D, 30), (w.heap.size + 3, (dCs d), 38), (w.heap.size + 4, ZC, 27)] y ∧ GO B y C g) ?_ ?_); (rw [hZ.out]; unfold gZ; exact ⟨Fm.five w _ _ _ _ _ _ _ _ _ _, hG.out.below (Fm.five w _ _ _ _ _ _ _ _ _ _).low⟩); intro y0 K0; obtain ⟨v1, v2, e0, e1, e2, e4, e5⟩ := five_cells (K := 16) K0.out.1 fV.out hOC.out)
    | ((with_reducible refine at_load rtG w.heap.size C1 ?_ ?_ (.tmp 4) ?_ ?_ ?_ ?_); exact K2.out.1.bx 0 _ _ _ rfl; exact K2.out.2.lies.size.1; kernel_rfl; rfl; rfl)
    | ((with_reducible refine at_load rtG w.heap.size C ?_ ?_ (.tmp 4) ?_ ?_ ?_ ?_); exact K0.out.1.bx 0 _ _ _ rfl; exact gC.out; kernel_rfl; rfl; rfl))
  exact ret_two rtG rfl rfl rfl (KE.out.1.bx 4 _ _ _ rfl) KE.out.2.lies.size.1 rfl ⟨C1, rfl, ⟨KE.out.2, BK.ofLow KE.out.1.low hB.out⟩⟩
theorem rdo_skipdown (w : World) (B : Nat) (C D : Array Value) (g : Gm) (f : Fo) (d : Fd) (hG : Hid (GO B w C g)) (hB : Hid (B ≤ w.heap.size)) (hf : Hid (FL w D f)) (hd : Hid d.Ok) (x y n b a : Nat) (hx : x < 16) (hy : y < 16) (hb : b < 256) (ha : a < 65536) :
    Calls Tryz.prog 31 #[.agg C, .agg #[.int .u8 21, .int .u8 (x : Int), .int .u8 (y : Int), .int .u8 (n : Int), .int .u8 (b : Int), .int .u16 (a : Int)], .agg D, .agg (dCs d)] w (RdE B w (doG g ⟨21, x, y, n, b, a⟩ f d)) := by
  obtain ⟨ZC, p, q, gC, gD, hZ, hZ', hp, hq, lp, lq, fV, ixx, ixy, ixi, iyi, ibi, iai, ipi, iqi⟩ := pre_do w B C D g f x y b a hG hf hx hy hb ha
  obtain ⟨OC, hOC⟩ := hid_ex #[.int .u8 21, .int .u8 (x : Int), .int .u8 (y : Int), .int .u8 (n : Int), .int .u8 (b : Int), .int .u16 (a : Int)]
  rw [← hOC.out]
  obtain ⟨m, hm⟩ : ∃ z, p % 16 = z := ⟨_, rfl⟩
  obtain ⟨KS, hKS⟩ : ∃ z, d.ks = z := ⟨_, rfl⟩
  have hks := hd.out.ks
  rw [hKS] at hks
  have hmm : m < 16 := by omega
  obtain ⟨S, hS⟩ : ∃ z, KS >>> m = z := ⟨_, rfl⟩
  obtain ⟨T, hT⟩ : ∃ z, S % 2 = z := ⟨_, rfl⟩
  have wm : (p : Int) % 16 = (m : Int) := by omega
  have wm' : Int.tmod (p : Int) 16 = (m : Int) := by rw [Int.tmod_eq_emod_of_nonneg (by omega)]; exact wm
  have imi : (m : Int) < 16 := by omega
  have wS := shk KS m hmm
  rw [hS] at wS
  have sS : S ≤ KS := by rw [← hS, Nat.shiftRight_eq_div_pow]; exact Nat.div_le_self _ _
  have s2 : (KS : Int) / 2 ^ m = (S : Int) := by rw [← hS, Nat.shiftRight_eq_div_pow]; push_cast; rfl
  have wT := and1N S (by omega)
  rw [hT] at wT
  have fk : Hid ((dCs d)[1]? = some (.int .u16 (KS : Int))) := by rw [← hKS]; exact (rfl : _ = _)
  obtain ⟨SB, hSB⟩ : ∃ z, (T == 1) = z := ⟨_, rfl⟩
  have r1 : ((T : Int) == 1) = SB := by have := beqI T 1; rw [hSB] at this; exact this
  have r2 : decide (T = 1) = SB := by rw [decB_]; exact hSB
  have eR : Hid (doG g ⟨21, x, y, n, b, a⟩ f d = ((skipG g SB), 1)) := by
    show _ = _
    (show (skipG g (d.ks >>> ((g.v.getD x 0).toNat % 16) % 2 == 1), 1) = _; rw [hp, hm, hKS, hS, hT, hSB])
  rw [eR.out]
  have hxx : Hid (x < 16 ∧ y < 16 ∧ b < 256 ∧ a < 65536) := ⟨hx, hy, hb, ha⟩
  have hpp : Hid ((g.v.getD x 0).toNat = p ∧ (g.v.getD y 0).toNat = q) := ⟨hp, hq⟩
  clear hx hy hb ha hp hq lp lq hSB hT hS hm hks sS hmm hKS
  go_enter Tryz.func31, Tryz.ntmps31
  go_wp2_with (first
    | ((with_reducible refine at_st rtG (w.heap.size + 4) ZC C1 ?_ ?_ ?_ ?_ (.tmp 8) (.tmp 196) ?_ ?_ ?_ ?_ ?_); exact K2.out.1.bx 4 _ _ _ rfl; exact hZ'.out; exact K2.out.2.lies.size.1; exact K2.out.2.lies.size.2.1; rfl; rfl; rfl; rfl; intro yE HE; have KE : Hid (Fm w [(w.heap.size, C1, 27), (w.heap.size + 1, OC, 60), (w.heap.size + 2, D, 30), (w.heap.size + 3, (dCs d), 38), (w.heap.size + 4, C1, 27)] yE ∧ GO B yE C1 (skipG g SB)) := ⟨K2.out.1.put 4 _ _ _ _ rfl HE.out, (K2.out.2).offT (K2.out.1.bx 4 _ _ _ rfl) (by decide) (by decide) HE.out.2.2⟩; clear HE)
    | ((with_reducible refine at_st rtG w.heap.size C C1 ?_ ?_ ?_ ?_ (.tmp 4) (.tmp 184) ?_ ?_ ?_ ?_ ?_); exact K1.out.1.bx 0 _ _ _ rfl; exact gC.out; exact K1.out.2.lies.size.1; exact K1.out.2.lies.size.2.1; rfl; rfl; rfl; rfl; intro y2 H2; have K2 : Hid (Fm w [(w.heap.size, C1, 27), (w.heap.size + 1, OC, 60), (w.heap.size + 2, D, 30), (w.heap.size + 3, (dCs d), 38), (w.heap.size + 4, ZC, 27)] y2 ∧ GO B y2 C1 (skipG g SB)) := ⟨K1.out.1.put 0 _ _ _ _ rfl H2.out, (K1.out.2).offT (K1.out.1.bx 0 _ _ _ rfl) (by decide) (by decide) H2.out.2.2⟩; clear H2)
    | (go_at_call 67; refine (skipG_any y0 B C g K0.out.2 SB).mono ?_; rintro e y1 ⟨C1, rfl, H⟩; have K1 : Hid (Fm w [(w.heap.size, C, 27), (w.heap.size + 1, OC, 60), (w.heap.size + 2, D, 30), (w.heap.size + 3, (dCs d), 38), (w.heap.size + 4, ZC, 27)] y1 ∧ GO B y1 C1 (skipG g SB)) := ⟨K0.out.1.below H.out.2, H.out.1⟩; clear H)
    | ((with_reducible refine gen_world (((((w.alloc (.cells C 27)).alloc (.cells OC 60)).alloc (.cells D 30)).alloc (.cells (dCs d) 38)).alloc (.cells z23A 27)) (fun y => Fm w [(w.heap.size, C, 27), (w.heap.size + 1, OC, 60), (w.heap.size + 2, D, 30), (w.heap.size + 3, (dCs d), 38), (w.heap.size + 4, ZC, 27)] y ∧ GO B y C g) ?_ ?_); (rw [hZ.out]; unfold gZ; exact ⟨Fm.five w _ _ _ _ _ _ _ _ _ _, hG.out.below (Fm.five w _ _ _ _ _ _ _ _ _ _).low⟩); intro y0 K0; obtain ⟨v1, v2, e0, e1, e2, e4, e5⟩ := five_cells (K := 21) K0.out.1 fV.out hOC.out; have ck := (K0.out.1.bx 3 _ _ _ rfl).c 1 _ fk.out)
    | ((with_reducible refine at_load rtG w.heap.size C1 ?_ ?_ (.tmp 4) ?_ ?_ ?_ ?_); exact K2.out.1.bx 0 _ _ _ rfl; exact K2.out.2.lies.size.1; kernel_rfl; rfl; rfl)
    | ((with_reducible refine at_load rtG w.heap.size C ?_ ?_ (.tmp 4) ?_ ?_ ?_ ?_); exact K0.out.1.bx 0 _ _ _ rfl; exact gC.out; kernel_rfl; rfl; rfl))
  exact ret_two rtG rfl rfl rfl (KE.out.1.bx 4 _ _ _ rfl) KE.out.2.lies.size.1 rfl ⟨C1, rfl, ⟨KE.out.2, BK.ofLow KE.out.1.low hB.out⟩⟩
theorem rdo_skipup (w : World) (B : Nat) (C D : Array Value) (g : Gm) (f : Fo) (d : Fd) (hG : Hid (GO B w C g)) (hB : Hid (B ≤ w.heap.size)) (hf : Hid (FL w D f)) (hd : Hid d.Ok) (x y n b a : Nat) (hx : x < 16) (hy : y < 16) (hb : b < 256) (ha : a < 65536) :
    Calls Tryz.prog 31 #[.agg C, .agg #[.int .u8 22, .int .u8 (x : Int), .int .u8 (y : Int), .int .u8 (n : Int), .int .u8 (b : Int), .int .u16 (a : Int)], .agg D, .agg (dCs d)] w (RdE B w (doG g ⟨22, x, y, n, b, a⟩ f d)) := by
  obtain ⟨ZC, p, q, gC, gD, hZ, hZ', hp, hq, lp, lq, fV, ixx, ixy, ixi, iyi, ibi, iai, ipi, iqi⟩ := pre_do w B C D g f x y b a hG hf hx hy hb ha
  obtain ⟨OC, hOC⟩ := hid_ex #[.int .u8 22, .int .u8 (x : Int), .int .u8 (y : Int), .int .u8 (n : Int), .int .u8 (b : Int), .int .u16 (a : Int)]
  rw [← hOC.out]
  obtain ⟨m, hm⟩ : ∃ z, p % 16 = z := ⟨_, rfl⟩
  obtain ⟨KS, hKS⟩ : ∃ z, d.ks = z := ⟨_, rfl⟩
  have hks := hd.out.ks
  rw [hKS] at hks
  have hmm : m < 16 := by omega
  obtain ⟨S, hS⟩ : ∃ z, KS >>> m = z := ⟨_, rfl⟩
  obtain ⟨T, hT⟩ : ∃ z, S % 2 = z := ⟨_, rfl⟩
  have wm : (p : Int) % 16 = (m : Int) := by omega
  have wm' : Int.tmod (p : Int) 16 = (m : Int) := by rw [Int.tmod_eq_emod_of_nonneg (by omega)]; exact wm
  have imi : (m : Int) < 16 := by omega
  have wS := shk KS m hmm
  rw [hS] at wS
  have sS : S ≤ KS := by rw [← hS, Nat.shiftRight_eq_div_pow]; exact Nat.div_le_self _ _
  have s2 : (KS : Int) / 2 ^ m = (S : Int) := by rw [← hS, Nat.shiftRight_eq_div_pow]; push_cast; rfl
  have wT := and1N S (by omega)
  rw [hT] at wT
  have fk : Hid ((dCs d)[1]? = some (.int .u16 (KS : Int))) := by rw [← hKS]; exact (rfl : _ = _)
  obtain ⟨SB, hSB⟩ : ∃ z, (T == 0) = z := ⟨_, rfl⟩
  have r1 : ((T : Int) == 0) = SB := by have := beqI T 0; rw [hSB] at this; exact this
  have r2 : decide (T = 0) = SB := by rw [decB_]; exact hSB
  have eR : Hid (doG g ⟨22, x, y, n, b, a⟩ f d = ((skipG g SB), 1)) := by
    show _ = _
    (show (skipG g (d.ks >>> ((g.v.getD x 0).toNat % 16) % 2 == 0), 1) = _; rw [hp, hm, hKS, hS, hT, hSB])
  rw [eR.out]
  have hxx : Hid (x < 16 ∧ y < 16 ∧ b < 256 ∧ a < 65536) := ⟨hx, hy, hb, ha⟩
  have hpp : Hid ((g.v.getD x 0).toNat = p ∧ (g.v.getD y 0).toNat = q) := ⟨hp, hq⟩
  clear hx hy hb ha hp hq lp lq hSB hT hS hm hks sS hmm hKS
  go_enter Tryz.func31, Tryz.ntmps31
  go_wp2_with (first
    | ((with_reducible refine at_st rtG (w.heap.size + 4) ZC C1 ?_ ?_ ?_ ?_ (.tmp 8) (.tmp 196) ?_ ?_ ?_ ?_ ?_); exact K2.out.1.bx 4 _ _ _ rfl; exact hZ'.out; exact K2.out.2.lies.size.1; exact K2.out.2.lies.size.2.1; rfl; rfl; rfl; rfl; intro yE HE; have KE : Hid (Fm w [(w.heap.size, C1, 27), (w.heap.size + 1, OC, 60), (w.heap.size + 2, D, 30), (w.heap.size + 3, (dCs d), 38), (w.heap.size + 4, C1, 27)] yE ∧ GO B yE C1 (skipG g SB)) := ⟨K2.out.1.put 4 _ _ _ _ rfl HE.out, (K2.out.2).offT (K2.out.1.bx 4 _ _ _ rfl) (by decide) (by decide) HE.out.2.2⟩; clear HE)
    | ((with_reducible refine at_st rtG w.heap.size C C1 ?_ ?_ ?_ ?_ (.tmp 4) (.tmp 195) ?_ ?_ ?_ ?_ ?_); exact K1.out.1.bx 0 _ _ _ rfl; exact gC.out; exact K1.out.2.lies.size.1; exact K1.out.2.lies.size.2.1; rfl; rfl; rfl; rfl; intro y2 H2; have K2 : Hid (Fm w [(w.heap.size, C1, 27), (w.heap.size + 1, OC, 60), (w.heap.size + 2, D, 30), (w.heap.size + 3, (dCs d), 38), (w.heap.size + 4, ZC, 27)] y2 ∧ GO B y2 C1 (skipG g SB)) := ⟨K1.out.1.put 0 _ _ _ _ rfl H2.out, (K1.out.2).offT (K1.out.1.bx 0 _ _ _ rfl) (by decide) (by decide) H2.out.2.2⟩; clear H2)
    | (go_at_call 67; refine (skipG_any y0 B C g K0.out.2 SB).mono ?_; rintro e y1 ⟨C1, rfl, H⟩; have K1 : Hid (Fm w [(w.heap.size, C, 27), (w.heap.size + 1, OC, 60), (w.heap.size + 2, D, 30), (w.heap.size + 3, (dCs d), 38), (w.heap.size + 4, ZC, 27)] y1 ∧ GO B y1 C1 (skipG g SB)) := ⟨K0.out.1.below H.out.2, H.out.1⟩; clear H)
    | ((with_reducible refine gen_world (((((w.alloc (.cells C 27)).alloc (.cells OC 60)).alloc (.cells D 30)).alloc (.cells (dCs d) 38)).alloc (.cells z23A 27)) (fun y => Fm w [(w.heap.size, C, 27), (w.heap.size + 1, OC, 60), (w.heap.size + 2, D, 30), (w.heap.size + 3, (dCs d), 38), (w.heap.size + 4, ZC, 27)] y ∧ GO B y C g) ?_ ?_); (rw [hZ.out]; unfold gZ; exact ⟨Fm.five w _ _ _ _ _ _ _ _ _ _, hG.out.below (Fm.five w _ _ _ _ _ _ _ _ _ _).low⟩); intro y0 K0; obtain ⟨v1, v2, e0, e1, e2, e4, e5⟩ := five_cells (K := 22) K0.out.1 fV.out hOC.out; have ck := (K0.out.1.bx 3 _ _ _ rfl).c 1 _ fk.out)
    | ((with_reducible refine at_load rtG w.heap.size C1 ?_ ?_ (.tmp 4) ?_ ?_ ?_ ?_); exact K2.out.1.bx 0 _ _ _ rfl; exact K2.out.2.lies.size.1; kernel_rfl; rfl; rfl)
    | ((with_reducible refine at_load rtG w.heap.size C ?_ ?_ (.tmp 4) ?_ ?_ ?_ ?_); exact K0.out.1.bx 0 _ _ _ rfl; exact gC.out; kernel_rfl; rfl; rfl))
  exact ret_two rtG rfl rfl rfl (KE.out.1.bx 4 _ _ _ rfl) KE.out.2.lies.size.1 rfl ⟨C1, rfl, ⟨KE.out.2, BK.ofLow KE.out.1.low hB.out⟩⟩
theorem rdo_move (w : World) (B : Nat) (C D : Array Value) (g : Gm) (f : Fo) (d : Fd) (hG : Hid (GO B w C g)) (hB : Hid (B ≤ w.heap.size)) (hf : Hid (FL w D f)) (hd : Hid d.Ok) (x y n b a : Nat) (hx : x < 16) (hy : y < 16) (hb : b < 256) (ha : a < 65536) :
    Calls Tryz.prog 31 #[.agg C, .agg #[.int .u8 11, .int .u8 (x : Int), .int .u8 (y : Int), .int .u8 (n : Int), .int .u8 (b : Int), .int .u16 (a : Int)], .agg D, .agg (dCs d)] w (RdE B w (doG g ⟨11, x, y, n, b, a⟩ f d)) := by
  obtain ⟨ZC, p, q, gC, gD, hZ, hZ', hp, hq, lp, lq, fV, ixx, ixy, ixi, iyi, ibi, iai, ipi, iqi⟩ := pre_do w B C D g f x y b a hG hf hx hy hb ha
  obtain ⟨OC, hOC⟩ := hid_ex #[.int .u8 11, .int .u8 (x : Int), .int .u8 (y : Int), .int .u8 (n : Int), .int .u8 (b : Int), .int .u16 (a : Int)]
  rw [← hOC.out]
  have eR : Hid (doG g ⟨11, x, y, n, b, a⟩ f d = ((setG g x (g.v.getD y 0)), 1)) := by
    show _ = _
    rfl
  rw [eR.out]
  have hxx : Hid (x < 16 ∧ y < 16 ∧ b < 256 ∧ a < 65536) := ⟨hx, hy, hb, ha⟩
  have hpp : Hid ((g.v.getD x 0).toNat = p ∧ (g.v.getD y 0).toNat = q) := ⟨hp, hq⟩
  clear hx hy hb ha hp hq lp lq
  go_enter Tryz.func31, Tryz.ntmps31
  go_wp2_with (first
    | ((with_reducible refine at_st rtG (w.heap.size + 4) ZC C1 ?_ ?_ ?_ ?_ (.tmp 8) (.tmp 196) ?_ ?_ ?_ ?_ ?_); exact K2.out.1.bx 4 _ _ _ rfl; exact hZ'.out; exact K2.out.2.lies.size.1; exact K2.out.2.lies.size.2.1; rfl; rfl; rfl; rfl; intro yE HE; have KE : Hid (Fm w [(w.heap.size, C1, 27), (w.heap.size + 1, OC, 60), (w.heap.size + 2, D, 30), (w.heap.size + 3, (dCs d), 38), (w.heap.size + 4, C1, 27)] yE ∧ GO B yE C1 (setG g x (g.v.getD y 0))) := ⟨K2.out.1.put 4 _ _ _ _ rfl HE.out, (K2.out.2).offT (K2.out.1.bx 4 _ _ _ rfl) (by decide) (by decide) HE.out.2.2⟩; clear HE)
    | ((with_reducible refine at_st rtG w.heap.size C C1 ?_ ?_ ?_ ?_ (.tmp 4) (.tmp 147) ?_ ?_ ?_ ?_ ?_); exact K1.out.1.bx 0 _ _ _ rfl; exact gC.out; exact K1.out.2.lies.size.1; exact K1.out.2.lies.size.2.1; rfl; rfl; rfl; rfl; intro y2 H2; have K2 : Hid (Fm w [(w.heap.size, C1, 27), (w.heap.size + 1, OC, 60), (w.heap.size + 2, D, 30), (w.heap.size + 3, (dCs d), 38), (w.heap.size + 4, ZC, 27)] y2 ∧ GO B y2 C1 (setG g x (g.v.getD y 0))) := ⟨K1.out.1.put 0 _ _ _ _ rfl H2.out, (K1.out.2).offT (K1.out.1.bx 0 _ _ _ rfl) (by decide) (by decide) H2.out.2.2⟩; clear H2)
    | (go_at_call 68; refine (rsums_move y0 B C g K0.out.2 (Nat.le_trans hB.out K0.out.1.low.size) x y n b a p q hxx.out.1 hxx.out.2.1 hpp.out.1 hpp.out.2 OC hOC).mono ?_; rintro e y1 ⟨C1, rfl, H⟩; have K1 : Hid (Fm w [(w.heap.size, C, 27), (w.heap.size + 1, OC, 60), (w.heap.size + 2, D, 30), (w.heap.size + 3, (dCs d), 38), (w.heap.size + 4, ZC, 27)] y1 ∧ GO B y1 C1 (setG g x (g.v.getD y 0))) := ⟨K0.out.1.below H.out.2, H.out.1⟩; clear H)
    | ((with_reducible refine gen_world (((((w.alloc (.cells C 27)).alloc (.cells OC 60)).alloc (.cells D 30)).alloc (.cells (dCs d) 38)).alloc (.cells z23A 27)) (fun y => Fm w [(w.heap.size, C, 27), (w.heap.size + 1, OC, 60), (w.heap.size + 2, D, 30), (w.heap.size + 3, (dCs d), 38), (w.heap.size + 4, ZC, 27)] y ∧ GO B y C g) ?_ ?_); (rw [hZ.out]; unfold gZ; exact ⟨Fm.five w _ _ _ _ _ _ _ _ _ _, hG.out.below (Fm.five w _ _ _ _ _ _ _ _ _ _).low⟩); intro y0 K0; obtain ⟨v1, v2, e0, e1, e2, e4, e5⟩ := five_cells (K := 11) K0.out.1 fV.out hOC.out)
    | ((with_reducible refine at_load rtO (w.heap.size + 1) OC ?_ ?_ (.tmp 5) ?_ ?_ ?_ ?_); exact K0.out.1.bx 1 _ _ _ rfl; (rw [hOC.out]; rfl); kernel_rfl; rfl; rfl)
    | ((with_reducible refine at_load rtG w.heap.size C1 ?_ ?_ (.tmp 4) ?_ ?_ ?_ ?_); exact K2.out.1.bx 0 _ _ _ rfl; exact K2.out.2.lies.size.1; kernel_rfl; rfl; rfl)
    | ((with_reducible refine at_load rtG w.heap.size C ?_ ?_ (.tmp 4) ?_ ?_ ?_ ?_); exact K0.out.1.bx 0 _ _ _ rfl; exact gC.out; kernel_rfl; rfl; rfl))
  exact ret_two rtG rfl rfl rfl (KE.out.1.bx 4 _ _ _ rfl) KE.out.2.lies.size.1 rfl ⟨C1, rfl, ⟨KE.out.2, BK.ofLow KE.out.1.low hB.out⟩⟩
theorem rdo_or (w : World) (B : Nat) (C D : Array Value) (g : Gm) (f : Fo) (d : Fd) (hG : Hid (GO B w C g)) (hB : Hid (B ≤ w.heap.size)) (hf : Hid (FL w D f)) (hd : Hid d.Ok) (x y n b a : Nat) (hx : x < 16) (hy : y < 16) (hb : b < 256) (ha : a < 65536) :
    Calls Tryz.prog 31 #[.agg C, .agg #[.int .u8 12, .int .u8 (x : Int), .int .u8 (y : Int), .int .u8 (n : Int), .int .u8 (b : Int), .int .u16 (a : Int)], .agg D, .agg (dCs d)] w (RdE B w (doG g ⟨12, x, y, n, b, a⟩ f d)) := by
  obtain ⟨ZC, p, q, gC, gD, hZ, hZ', hp, hq, lp, lq, fV, ixx, ixy, ixi, iyi, ibi, iai, ipi, iqi⟩ := pre_do w B C D g f x y b a hG hf hx hy hb ha
  obtain ⟨OC, hOC⟩ := hid_ex #[.int .u8 12, .int .u8 (x : Int), .int .u8 (y : Int), .int .u8 (n : Int), .int .u8 (b : Int), .int .u16 (a : Int)]
  rw [← hOC.out]
  have eR : Hid (doG g ⟨12, x, y, n, b, a⟩ f d = ((setG (setG g x ((g.v.getD x 0) ||| (g.v.getD y 0))) 15 0), 1)) := by
    show _ = _
    rfl
  rw [eR.out]
  have hxx : Hid (x < 16 ∧ y < 16 ∧ b < 256 ∧ a < 65536) := ⟨hx, hy, hb, ha⟩
  have hpp : Hid ((g.v.getD x 0).toNat = p ∧ (g.v.getD y 0).toNat = q) := ⟨hp, hq⟩
  clear hx hy hb ha hp hq lp lq
  go_enter Tryz.func31, Tryz.ntmps31
  go_wp2_with (first
    | ((with_reducible refine at_st rtG (w.heap.size + 4) ZC C1 ?_ ?_ ?_ ?_ (.tmp 8) (.tmp 196) ?_ ?_ ?_ ?_ ?_); exact K2.out.1.bx 4 _ _ _ rfl; exact hZ'.out; exact K2.out.2.lies.size.1; exact K2.out.2.lies.size.2.1; rfl; rfl; rfl; rfl; intro yE HE; have KE : Hid (Fm w [(w.heap.size, C1, 27), (w.heap.size + 1, OC, 60), (w.heap.size + 2, D, 30), (w.heap.size + 3, (dCs d), 38), (w.heap.size + 4, C1, 27)] yE ∧ GO B yE C1 (setG (setG g x ((g.v.getD x 0) ||| (g.v.getD y 0))) 15 0)) := ⟨K2.out.1.put 4 _ _ _ _ rfl HE.out, (K2.out.2).offT (K2.out.1.bx 4 _ _ _ rfl) (by decide) (by decide) HE.out.2.2⟩; clear HE)
    | ((with_reducible refine at_st rtG w.heap.size C C1 ?_ ?_ ?_ ?_ (.tmp 4) (.tmp 147) ?_ ?_ ?_ ?_ ?_); exact K1.out.1.bx 0 _ _ _ rfl; exact gC.out; exact K1.out.2.lies.size.1; exact K1.out.2.lies.size.2.1; rfl; rfl; rfl; rfl; intro y2 H2; have K2 : Hid (Fm w [(w.heap.size, C1, 27), (w.heap.size + 1, OC, 60), (w.heap.size + 2, D, 30), (w.heap.size + 3, (dCs d), 38), (w.heap.size + 4, ZC, 27)] y2 ∧ GO B y2 C1 (setG (setG g x ((g.v.getD x 0) ||| (g.v.getD y 0))) 15 0)) := ⟨K1.out.1.put 0 _ _ _ _ rfl H2.out, (K1.out.2).offT (K1.out.1.bx 0 _ _ _ rfl) (by decide) (by decide) H2.out.2.2⟩; clear H2)
    | (go_at_call 68; refine (rsums_or y0 B C g K0.out.2 (Nat.le_trans hB.out K0.out.1.low.size) x y n b a p q hxx.out.1 hxx.out.2.1 hpp.out.1 hpp.out.2 OC hOC).mono ?_; rintro e y1 ⟨C1, rfl, H⟩; have K1 : Hid (Fm w [(w.heap.size, C, 27), (w.heap.size + 1, OC, 60), (w.heap.size + 2, D, 30), (w.heap.size + 3, (dCs d), 38), (w.heap.size + 4, ZC, 27)] y1 ∧ GO B y1 C1 (setG (setG g x ((g.v.getD x 0) ||| (g.v.getD y 0))) 15 0)) := ⟨K0.out.1.below H.out.2, H.out.1⟩; clear H)
    | ((with_reducible refine gen_world (((((w.alloc (.cells C 27)).alloc (.cells OC 60)).alloc (.cells D 30)).alloc (.cells (dCs d) 38)).alloc (.cells z23A 27)) (fun y => Fm w [(w.heap.size, C, 27), (w.heap.size + 1, OC, 60), (w.heap.size + 2, D, 30), (w.heap.size + 3, (dCs d), 38), (w.heap.size + 4, ZC, 27)] y ∧ GO B y C g) ?_ ?_); (rw [hZ.out]; unfold gZ; exact ⟨Fm.five w _ _ _ _ _ _ _ _ _ _, hG.out.below (Fm.five w _ _ _ _ _ _ _ _ _ _).low⟩); intro y0 K0; obtain ⟨v1, v2, e0, e1, e2, e4, e5⟩ := five_cells (K := 12) K0.out.1 fV.out hOC.out)
    | ((with_reducible refine at_load rtO (w.heap.size + 1) OC ?_ ?_ (.tmp 5) ?_ ?_ ?_ ?_); exact K0.out.1.bx 1 _ _ _ rfl; (rw [hOC.out]; rfl); kernel_rfl; rfl; rfl)
    | ((with_reducible refine at_load rtG w.heap.size C1 ?_ ?_ (.tmp 4) ?_ ?_ ?_ ?_); exact K2.out.1.bx 0 _ _ _ rfl; exact K2.out.2.lies.size.1; kernel_rfl; rfl; rfl)
    | ((with_reducible refine at_load rtG w.heap.size C ?_ ?_ (.tmp 4) ?_ ?_ ?_ ?_); exact K0.out.1.bx 0 _ _ _ rfl; exact gC.out; kernel_rfl; rfl; rfl))
  exact ret_two rtG rfl rfl rfl (KE.out.1.bx 4 _ _ _ rfl) KE.out.2.lies.size.1 rfl ⟨C1, rfl, ⟨KE.out.2, BK.ofLow KE.out.1.low hB.out⟩⟩
theorem rdo_and (w : World) (B : Nat) (C D : Array Value) (g : Gm) (f : Fo) (d : Fd) (hG : Hid (GO B w C g)) (hB : Hid (B ≤ w.heap.size)) (hf : Hid (FL w D f)) (hd : Hid d.Ok) (x y n b a : Nat) (hx : x < 16) (hy : y < 16) (hb : b < 256) (ha : a < 65536) :
    Calls Tryz.prog 31 #[.agg C, .agg #[.int .u8 13, .int .u8 (x : Int), .int .u8 (y : Int), .int .u8 (n : Int), .int .u8 (b : Int), .int .u16 (a : Int)], .agg D, .agg (dCs d)] w (RdE B w (doG g ⟨13, x, y, n, b, a⟩ f d)) := by
  obtain ⟨ZC, p, q, gC, gD, hZ, hZ', hp, hq, lp, lq, fV, ixx, ixy, ixi, iyi, ibi, iai, ipi, iqi⟩ := pre_do w B C D g f x y b a hG hf hx hy hb ha
  obtain ⟨OC, hOC⟩ := hid_ex #[.int .u8 13, .int .u8 (x : Int), .int .u8 (y : Int), .int .u8 (n : Int), .int .u8 (b : Int), .int .u16 (a : Int)]
  rw [← hOC.out]
  have eR : Hid (doG g ⟨13, x, y, n, b, a⟩ f d = ((setG (setG g x ((g.v.getD x 0) &&& (g.v.getD y 0))) 15 0), 1)) := by
    show _ = _
    rfl
  rw [eR.out]
  have hxx : Hid (x < 16 ∧ y < 16 ∧ b < 256 ∧ a < 65536) := ⟨hx, hy, hb, ha⟩
  have hpp : Hid ((g.v.getD x 0).toNat = p ∧ (g.v.getD y 0).toNat = q) := ⟨hp, hq⟩
  clear hx hy hb ha hp hq lp lq
  go_enter Tryz.func31, Tryz.ntmps31
  go_wp2_with (first
    | ((with_reducible refine at_st rtG (w.heap.size + 4) ZC C1 ?_ ?_ ?_ ?_ (.tmp 8) (.tmp 196) ?_ ?_ ?_ ?_ ?_); exact K2.out.1.bx 4 _ _ _ rfl; exact hZ'.out; exact K2.out.2.lies.size.1; exact K2.out.2.lies.size.2.1; rfl; rfl; rfl; rfl; intro yE HE; have KE : Hid (Fm w [(w.heap.size, C1, 27), (w.heap.size + 1, OC, 60), (w.heap.size + 2, D, 30), (w.heap.size + 3, (dCs d), 38), (w.heap.size + 4, C1, 27)] yE ∧ GO B yE C1 (setG (setG g x ((g.v.getD x 0) &&& (g.v.getD y 0))) 15 0)) := ⟨K2.out.1.put 4 _ _ _ _ rfl HE.out, (K2.out.2).offT (K2.out.1.bx 4 _ _ _ rfl) (by decide) (by decide) HE.out.2.2⟩; clear HE)
    | ((with_reducible refine at_st rtG w.heap.size C C1 ?_ ?_ ?_ ?_ (.tmp 4) (.tmp 147) ?_ ?_ ?_ ?_ ?_); exact K1.out.1.bx 0 _ _ _ rfl; exact gC.out; exact K1.out.2.lies.size.1; exact K1.out.2.lies.size.2.1; rfl; rfl; rfl; rfl; intro y2 H2; have K2 : Hid (Fm w [(w.heap.size, C1, 27), (w.heap.size + 1, OC, 60), (w.heap.size + 2, D, 30), (w.heap.size + 3, (dCs d), 38), (w.heap.size + 4, ZC, 27)] y2 ∧ GO B y2 C1 (setG (setG g x ((g.v.getD x 0) &&& (g.v.getD y 0))) 15 0)) := ⟨K1.out.1.put 0 _ _ _ _ rfl H2.out, (K1.out.2).offT (K1.out.1.bx 0 _ _ _ rfl) (by decide) (by decide) H2.out.2.2⟩; clear H2)
    | (go_at_call 68; refine (rsums_and y0 B C g K0.out.2 (Nat.le_trans hB.out K0.out.1.low.size) x y n b a p q hxx.out.1 hxx.out.2.1 hpp.out.1 hpp.out.2 OC hOC).mono ?_; rintro e y1 ⟨C1, rfl, H⟩; have K1 : Hid (Fm w [(w.heap.size, C, 27), (w.heap.size + 1, OC, 60), (w.heap.size + 2, D, 30), (w.heap.size + 3, (dCs d), 38), (w.heap.size + 4, ZC, 27)] y1 ∧ GO B y1 C1 (setG (setG g x ((g.v.getD x 0) &&& (g.v.getD y 0))) 15 0)) := ⟨K0.out.1.below H.out.2, H.out.1⟩; clear H)
    | ((with_reducible refine gen_world (((((w.alloc (.cells C 27)).alloc (.cells OC 60)).alloc (.cells D 30)).alloc (.cells (dCs d) 38)).alloc (.cells z23A 27)) (fun y => Fm w [(w.heap.size, C, 27), (w.heap.size + 1, OC, 60), (w.heap.size + 2, D, 30), (w.heap.size + 3, (dCs d), 38), (w.heap.size + 4, ZC, 27)] y ∧ GO B y C g) ?_ ?_); (rw [hZ.out]; unfold gZ; exact ⟨Fm.five w _ _ _ _ _ _ _ _ _ _, hG.out.below (Fm.five w _ _ _ _ _ _ _ _ _ _).low⟩); intro y0 K0; obtain ⟨v1, v2, e0, e1, e2, e4, e5⟩ := five_cells (K := 13) K0.out.1 fV.out hOC.out)
    | ((with_reducible refine at_load rtO (w.heap.size + 1) OC ?_ ?_ (.tmp 5) ?_ ?_ ?_ ?_); exact K0.out.1.bx 1 _ _ _ rfl; (rw [hOC.out]; rfl); kernel_rfl; rfl; rfl)
    | ((with_reducible refine at_load rtG w.heap.size C1 ?_ ?_ (.tmp 4) ?_ ?_ ?_ ?_); exact K2.out.1.bx 0 _ _ _ rfl; exact K2.out.2.lies.size.1; kernel_rfl; rfl; rfl)
    | ((with_reducible refine at_load rtG w.heap.size C ?_ ?_ (.tmp 4) ?_ ?_ ?_ ?_); exact K0.out.1.bx 0 _ _ _ rfl; exact gC.out; kernel_rfl; rfl; rfl))
  exact ret_two rtG rfl rfl rfl (KE.out.1.bx 4 _ _ _ rfl) KE.out.2.lies.size.1 rfl ⟨C1, rfl, ⟨KE.out.2, BK.ofLow KE.out.1.low hB.out⟩⟩
theorem rdo_plus (w : World) (B : Nat) (C D : Array Value) (g : Gm) (f : Fo) (d : Fd) (hG : Hid (GO B w C g)) (hB : Hid (B ≤ w.heap.size)) (hf : Hid (FL w D f)) (hd : Hid d.Ok) (x y n b a : Nat) (hx : x < 16) (hy : y < 16) (hb : b < 256) (ha : a < 65536) :
    Calls Tryz.prog 31 #[.agg C, .agg #[.int .u8 14, .int .u8 (x : Int), .int .u8 (y : Int), .int .u8 (n : Int), .int .u8 (b : Int), .int .u16 (a : Int)], .agg D, .agg (dCs d)] w (RdE B w (doG g ⟨14, x, y, n, b, a⟩ f d)) := by
  obtain ⟨ZC, p, q, gC, gD, hZ, hZ', hp, hq, lp, lq, fV, ixx, ixy, ixi, iyi, ibi, iai, ipi, iqi⟩ := pre_do w B C D g f x y b a hG hf hx hy hb ha
  obtain ⟨OC, hOC⟩ := hid_ex #[.int .u8 14, .int .u8 (x : Int), .int .u8 (y : Int), .int .u8 (n : Int), .int .u8 (b : Int), .int .u16 (a : Int)]
  rw [← hOC.out]
  have eR : Hid (doG g ⟨14, x, y, n, b, a⟩ f d = ((setG (setG g x ((g.v.getD x 0) + (g.v.getD y 0))) 15 (oneG (decide (255 < (g.v.getD x 0).toNat + (g.v.getD y 0).toNat)))), 1)) := by
    show _ = _
    rfl
  rw [eR.out]
  have hxx : Hid (x < 16 ∧ y < 16 ∧ b < 256 ∧ a < 65536) := ⟨hx, hy, hb, ha⟩
  have hpp : Hid ((g.v.getD x 0).toNat = p ∧ (g.v.getD y 0).toNat = q) := ⟨hp, hq⟩
  clear hx hy hb ha hp hq lp lq
  go_enter Tryz.func31, Tryz.ntmps31
  go_wp2_with (first
    | ((with_reducible refine at_st rtG (w.heap.size + 4) ZC C1 ?_ ?_ ?_ ?_ (.tmp 8) (.tmp 196) ?_ ?_ ?_ ?_ ?_); exact K2.out.1.bx 4 _ _ _ rfl; exact hZ'.out; exact K2.out.2.lies.size.1; exact K2.out.2.lies.size.2.1; rfl; rfl; rfl; rfl; intro yE HE; have KE : Hid (Fm w [(w.heap.size, C1, 27), (w.heap.size + 1, OC, 60), (w.heap.size + 2, D, 30), (w.heap.size + 3, (dCs d), 38), (w.heap.size + 4, C1, 27)] yE ∧ GO B yE C1 (setG (setG g x ((g.v.getD x 0) + (g.v.getD y 0))) 15 (oneG (decide (255 < (g.v.getD x 0).toNat + (g.v.getD y 0).toNat))))) := ⟨K2.out.1.put 4 _ _ _ _ rfl HE.out, (K2.out.2).offT (K2.out.1.bx 4 _ _ _ rfl) (by decide) (by decide) HE.out.2.2⟩; clear HE)
    | ((with_reducible refine at_st rtG w.heap.size C C1 ?_ ?_ ?_ ?_ (.tmp 4) (.tmp 147) ?_ ?_ ?_ ?_ ?_); exact K1.out.1.bx 0 _ _ _ rfl; exact gC.out; exact K1.out.2.lies.size.1; exact K1.out.2.lies.size.2.1; rfl; rfl; rfl; rfl; intro y2 H2; have K2 : Hid (Fm w [(w.heap.size, C1, 27), (w.heap.size + 1, OC, 60), (w.heap.size + 2, D, 30), (w.heap.size + 3, (dCs d), 38), (w.heap.size + 4, ZC, 27)] y2 ∧ GO B y2 C1 (setG (setG g x ((g.v.getD x 0) + (g.v.getD y 0))) 15 (oneG (decide (255 < (g.v.getD x 0).toNat + (g.v.getD y 0).toNat))))) := ⟨K1.out.1.put 0 _ _ _ _ rfl H2.out, (K1.out.2).offT (K1.out.1.bx 0 _ _ _ rfl) (by decide) (by decide) H2.out.2.2⟩; clear H2)
    | (go_at_call 68; refine (rsums_plus y0 B C g K0.out.2 (Nat.le_trans hB.out K0.out.1.low.size) x y n b a p q hxx.out.1 hxx.out.2.1 hpp.out.1 hpp.out.2 OC hOC).mono ?_; rintro e y1 ⟨C1, rfl, H⟩; have K1 : Hid (Fm w [(w.heap.size, C, 27), (w.heap.size + 1, OC, 60), (w.heap.size + 2, D, 30), (w.heap.size + 3, (dCs d), 38), (w.heap.size + 4, ZC, 27)] y1 ∧ GO B y1 C1 (setG (setG g x ((g.v.getD x 0) + (g.v.getD y 0))) 15 (oneG (decide (255 < (g.v.getD x 0).toNat + (g.v.getD y 0).toNat))))) := ⟨K0.out.1.below H.out.2, H.out.1⟩; clear H)
    | ((with_reducible refine gen_world (((((w.alloc (.cells C 27)).alloc (.cells OC 60)).alloc (.cells D 30)).alloc (.cells (dCs d) 38)).alloc (.cells z23A 27)) (fun y => Fm w [(w.heap.size, C, 27), (w.heap.size + 1, OC, 60), (w.heap.size + 2, D, 30), (w.heap.size + 3, (dCs d), 38), (w.heap.size + 4, ZC, 27)] y ∧ GO B y C g) ?_ ?_); (rw [hZ.out]; unfold gZ; exact ⟨Fm.five w _ _ _ _ _ _ _ _ _ _, hG.out.below (Fm.five w _ _ _ _ _ _ _ _ _ _).low⟩); intro y0 K0; obtain ⟨v1, v2, e0, e1, e2, e4, e5⟩ := five_cells (K := 14) K0.out.1 fV.out hOC.out)
    | ((with_reducible refine at_load rtO (w.heap.size + 1) OC ?_ ?_ (.tmp 5) ?_ ?_ ?_ ?_); exact K0.out.1.bx 1 _ _ _ rfl; (rw [hOC.out]; rfl); kernel_rfl; rfl; rfl)
    | ((with_reducible refine at_load rtG w.heap.size C1 ?_ ?_ (.tmp 4) ?_ ?_ ?_ ?_); exact K2.out.1.bx 0 _ _ _ rfl; exact K2.out.2.lies.size.1; kernel_rfl; rfl; rfl)
    | ((with_reducible refine at_load rtG w.heap.size C ?_ ?_ (.tmp 4) ?_ ?_ ?_ ?_); exact K0.out.1.bx 0 _ _ _ rfl; exact gC.out; kernel_rfl; rfl; rfl))
  exact ret_two rtG rfl rfl rfl (KE.out.1.bx 4 _ _ _ rfl) KE.out.2.lies.size.1 rfl ⟨C1, rfl, ⟨KE.out.2, BK.ofLow KE.out.1.low hB.out⟩⟩
theorem rdo_minus (w : World) (B : Nat) (C D : Array Value) (g : Gm) (f : Fo) (d : Fd) (hG : Hid (GO B w C g)) (hB : Hid (B ≤ w.heap.size)) (hf : Hid (FL w D f)) (hd : Hid d.Ok) (x y n b a : Nat) (hx : x < 16) (hy : y < 16) (hb : b < 256) (ha : a < 65536) :
    Calls Tryz.prog 31 #[.agg C, .agg #[.int .u8 15, .int .u8 (x : Int), .int .u8 (y : Int), .int .u8 (n : Int), .int .u8 (b : Int), .int .u16 (a : Int)], .agg D, .agg (dCs d)] w (RdE B w (doG g ⟨15, x, y, n, b, a⟩ f d)) := by
  obtain ⟨ZC, p, q, gC, gD, hZ, hZ', hp, hq, lp, lq, fV, ixx, ixy, ixi, iyi, ibi, iai, ipi, iqi⟩ := pre_do w B C D g f x y b a hG hf hx hy hb ha
  obtain ⟨OC, hOC⟩ := hid_ex #[.int .u8 15, .int .u8 (x : Int), .int .u8 (y : Int), .int .u8 (n : Int), .int .u8 (b : Int), .int .u16 (a : Int)]
  rw [← hOC.out]
  have eR : Hid (doG g ⟨15, x, y, n, b, a⟩ f d = ((setG (setG g x ((g.v.getD x 0) - (g.v.getD y 0))) 15 (oneG (decide ((g.v.getD y 0).toNat ≤ (g.v.getD x 0).toNat)))), 1)) := by
    show _ = _
    rfl
  rw [eR.out]
  have hxx : Hid (x < 16 ∧ y < 16 ∧ b < 256 ∧ a < 65536) := ⟨hx, hy, hb, ha⟩
  have hpp : Hid ((g.v.getD x 0).toNat = p ∧ (g.v.getD y 0).toNat = q) := ⟨hp, hq⟩
  clear hx hy hb ha hp hq lp lq
  go_enter Tryz.func31, Tryz.ntmps31
  go_wp2_with (first
    | ((with_reducible refine at_st rtG (w.heap.size + 4) ZC C1 ?_ ?_ ?_ ?_ (.tmp 8) (.tmp 196) ?_ ?_ ?_ ?_ ?_); exact K2.out.1.bx 4 _ _ _ rfl; exact hZ'.out; exact K2.out.2.lies.size.1; exact K2.out.2.lies.size.2.1; rfl; rfl; rfl; rfl; intro yE HE; have KE : Hid (Fm w [(w.heap.size, C1, 27), (w.heap.size + 1, OC, 60), (w.heap.size + 2, D, 30), (w.heap.size + 3, (dCs d), 38), (w.heap.size + 4, C1, 27)] yE ∧ GO B yE C1 (setG (setG g x ((g.v.getD x 0) - (g.v.getD y 0))) 15 (oneG (decide ((g.v.getD y 0).toNat ≤ (g.v.getD x 0).toNat))))) := ⟨K2.out.1.put 4 _ _ _ _ rfl HE.out, (K2.out.2).offT (K2.out.1.bx 4 _ _ _ rfl) (by decide) (by decide) HE.out.2.2⟩; clear HE)
    | ((with_reducible refine at_st rtG w.heap.size C C1 ?_ ?_ ?_ ?_ (.tmp 4) (.tmp 147) ?_ ?_ ?_ ?_ ?_); exact K1.out.1.bx 0 _ _ _ rfl; exact gC.out; exact K1.out.2.lies.size.1; exact K1.out.2.lies.size.2.1; rfl; rfl; rfl; rfl; intro y2 H2; have K2 : Hid (Fm w [(w.heap.size, C1, 27), (w.heap.size + 1, OC, 60), (w.heap.size + 2, D, 30), (w.heap.size + 3, (dCs d), 38), (w.heap.size + 4, ZC, 27)] y2 ∧ GO B y2 C1 (setG (setG g x ((g.v.getD x 0) - (g.v.getD y 0))) 15 (oneG (decide ((g.v.getD y 0).toNat ≤ (g.v.getD x 0).toNat))))) := ⟨K1.out.1.put 0 _ _ _ _ rfl H2.out, (K1.out.2).offT (K1.out.1.bx 0 _ _ _ rfl) (by decide) (by decide) H2.out.2.2⟩; clear H2)
    | (go_at_call 68; refine (rsums_minus y0 B C g K0.out.2 (Nat.le_trans hB.out K0.out.1.low.size) x y n b a p q hxx.out.1 hxx.out.2.1 hpp.out.1 hpp.out.2 OC hOC).mono ?_; rintro e y1 ⟨C1, rfl, H⟩; have K1 : Hid (Fm w [(w.heap.size, C, 27), (w.heap.size + 1, OC, 60), (w.heap.size + 2, D, 30), (w.heap.size + 3, (dCs d), 38), (w.heap.size + 4, ZC, 27)] y1 ∧ GO B y1 C1 (setG (setG g x ((g.v.getD x 0) - (g.v.getD y 0))) 15 (oneG (decide ((g.v.getD y 0).toNat ≤ (g.v.getD x 0).toNat))))) := ⟨K0.out.1.below H.out.2, H.out.1⟩; clear H)
    | ((with_reducible refine gen_world (((((w.alloc (.cells C 27)).alloc (.cells OC 60)).alloc (.cells D 30)).alloc (.cells (dCs d) 38)).alloc (.cells z23A 27)) (fun y => Fm w [(w.heap.size, C, 27), (w.heap.size + 1, OC, 60), (w.heap.size + 2, D, 30), (w.heap.size + 3, (dCs d), 38), (w.heap.size + 4, ZC, 27)] y ∧ GO B y C g) ?_ ?_); (rw [hZ.out]; unfold gZ; exact ⟨Fm.five w _ _ _ _ _ _ _ _ _ _, hG.out.below (Fm.five w _ _ _ _ _ _ _ _ _ _).low⟩); intro y0 K0; obtain ⟨v1, v2, e0, e1, e2, e4, e5⟩ := five_cells (K := 15) K0.out.1 fV.out hOC.out)
    | ((with_reducible refine at_load rtO (w.heap.size + 1) OC ?_ ?_ (.tmp 5) ?_ ?_ ?_ ?_); exact K0.out.1.bx 1 _ _ _ rfl; (rw [hOC.out]; rfl); kernel_rfl; rfl; rfl)
    | ((with_reducible refine at_load rtG w.heap.size C1 ?_ ?_ (.tmp 4) ?_ ?_ ?_ ?_); exact K2.out.1.bx 0 _ _ _ rfl; exact K2.out.2.lies.size.1; kernel_rfl; rfl; rfl)
    | ((with_reducible refine at_load rtG w.heap.size C ?_ ?_ (.tmp 4) ?_ ?_ ?_ ?_); exact K0.out.1.bx 0 _ _ _ rfl; exact gC.out; kernel_rfl; rfl; rfl))
  exact ret_two rtG rfl rfl rfl (KE.out.1.bx 4 _ _ _ rfl) KE.out.2.lies.size.1 rfl ⟨C1, rfl, ⟨KE.out.2, BK.ofLow KE.out.1.low hB.out⟩⟩
end Go.Proofs.YteipjkjpeookaaaGreat
