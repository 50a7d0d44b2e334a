/- The document's own: others: registers stored. -/
import Derived.Test.YteipjkjpeookaaaGreatR12
namespace Go.Proofs.YteipjkjpeookaaaGreat
open Go Go.RowKit Go.Shelf
set_option linter.unusedVariables false
set_option maxHeartbeats 1000000
set_option maxRecDepth 100000

theorem rothers_store (w : World) (B : Nat) (C D : Array Value) (g : Gm) (f : Fo) (d : Fd) (hG : Hid (GO B w C g)) (hB : Hid (B ≤ w.heap.size)) (hf : Hid (FL w D f)) (hd : Hid d.Ok) (x y n b a : Nat) (hx : x < 16) (hy : y < 16) (hb : b < 256) (ha : a < 65536) (hm3 : g.me.length = 3232) (hft : fitG g.i (x + 1) = true) :
    Calls Tryz.prog 70 #[.agg C, .agg #[.int .u8 30, .int .u8 (x : Int), .int .u8 (y : Int), .int .u8 (n : Int), .int .u8 (b : Int), .int .u16 (a : Int)], .agg D, .agg (dCs d)] w (RdE B w (doG g ⟨30, x, y, n, b, a⟩ f d)) := by
  obtain ⟨ZC, p, q, gC, gD, hZ, hZ', hp, hq, lp, lq, fV, ixx, ixy, ixi, iyi, ibi, iai, ipi, iqi⟩ := pre_do w B C D g f x y b a hG hf hx hy hb ha
  obtain ⟨OC, hOC⟩ := hid_ex #[.int .u8 30, .int .u8 (x : Int), .int .u8 (y : Int), .int .u8 (n : Int), .int .u8 (b : Int), .int .u16 (a : Int)]
  rw [← hOC.out]
  have fI : Hid (C[16]? = some (.int .u16 (g.i : Int))) := hG.out.rest.1
  have iI : (g.i : Int) < 65536 := by have := hG.out.ok.i; omega
  obtain ⟨m, hmx⟩ : ∃ z, x + 1 = z := ⟨_, rfl⟩
  have wm : (x : Int) + 1 = (m : Int) := by omega
  have mi : (m : Int) ≤ 16 := by omega
  have hmm : Hid (0 < m ∧ m ≤ 16) := ⟨by omega, by omega⟩
  have hip : Hid (g.i < 65536) := hG.out.ok.i
  have hm' : Hid (g.me.length = 3232) := hm3
  obtain ⟨A, hA⟩ : ∃ z, (g.i + m) % 65536 = z := ⟨_, rfl⟩
  have hA' : Hid (A < 65536) := by show A < 65536; omega
  have wA : IntKind.u16.wrap ((g.i : Int) + (m : Int)) = (A : Int) := by rw [IntKind.wrap_u16]; omega
  have wA' : ((g.i : Int) + (m : Int)) % 65536 = (A : Int) := by omega
  obtain ⟨gM, cM, eM, lM1, lM2⟩ := hG.out.memAt hm3
  have hMM : Hid (C[22]? = some (.slice (some ⟨gM, 0, none⟩) 3232 cM) ∧ B ≤ gM ∧ gM < w.heap.size) := ⟨eM, lM1, lM2⟩
  rw [hmx] at hft
  have hft' : Hid (fitG g.i m = true) := hft
  have hg2 : Hid ((if true = true then { g with me := wr g.me (g.i - 512) (g.v.take m) m } else g) = { g with me := wr g.me (g.i - 512) g.v m }) := by
    show _ = _
    rw [if_pos rfl, wr_takeN _ _ _ _ _ (Nat.le_refl _)]
  have eR : Hid (doG g ⟨30, x, y, n, b, a⟩ f d = ({ g with me := wr g.me (g.i - 512) g.v m, i := A }, 1)) := by
    show (if fitG g.i (x + 1) then (({ g with me := wr g.me (g.i - 512) g.v (x + 1), i := (g.i + (x + 1)) % 65536 } : Gm), 1) else (g, 7)) = _
    rw [hmx, hft'.out, hA]
    rfl
  rw [eR.out]
  have hz5 : Hid (w.heap.size + 5 ≤ w.heap.size + 5) := Nat.le_refl _
  obtain ⟨C1, hC1⟩ : ∃ z, Hid (z = C.setIfInBounds 16 (.int .u16 (A : Int))) := ⟨_, (rfl : C.setIfInBounds 16 (.int .u16 (A : Int)) = _)⟩
  have hS1 : Hid (C1.size = 23) := by show _ = _; rw [hC1.out, Array.size_setIfInBounds]; exact gC.out
  clear hx hy hb ha hp hq lp lq eM lM1 lM2 hm3 hft hmx hA
  go_enter Tryz.func70, Tryz.ntmps70
  go_upto_region 25 with (first
    | ((with_reducible refine gen_world (((((w.alloc (.cells C 27)).alloc (.cells OC 60)).alloc (.cells D 30)).alloc (.cells (dCs d) 38)).alloc (.cells z23A 27)) (fun y => Fm w [(w.heap.size, C, 27), (w.heap.size + 1, OC, 60), (w.heap.size + 2, D, 30), (w.heap.size + 3, (dCs d), 38), (w.heap.size + 4, ZC, 27)] y ∧ GO B y C g) ?_ ?_); (rw [hZ.out]; unfold gZ; exact ⟨Fm.five w _ _ _ _ _ _ _ _ _ _, hG.out.below (Fm.five w _ _ _ _ _ _ _ _ _ _).low⟩); intro y0 K0; obtain ⟨v1, v2, e0, e1, e2, e4, e5⟩ := five_cells (K := 30) K0.out.1 fV.out hOC.out; have e16 := (K0.out.1.bx 0 _ _ _ rfl).c 16 _ fI.out))
  refine regW w B C ZC g ({ g with me := wr g.me (g.i - 512) g.v m }) gM cM g.i m true hZ.out hZ'.out gC.out hB.out hm'.out hMM.out.1 hMM.out.2 hip.out hmm.out.1 hmm.out.2 hft'.out hg2.out ?_ ?_ ?_ ?_ ?_ ?_ ?_ ?_ ?_ ?_ ?_ ?_ ?_ ?_ ?_ ?_ ?_ ?_ ⟨K0.out.1.bx 0 _ _ _ rfl, K0.out.1.bx 4 _ _ _ rfl⟩ K0.out.2 (BK.ofLow K0.out.1.low hB.out) (Nat.succ_le_of_lt (heap_lt (K0.out.1.bx 4 _ _ _ rfl))) ?_
  · rfl
  · kernel_rfl
  · exact ⟨_, rfl, rfl, rfl, rfl, fun q hq => absurd hq (by simp)⟩
  · exact ⟨_, rfl, rfl, rfl, rfl, fun q hq => absurd hq (by simp)⟩
  · exact ⟨_, rfl, rfl, rfl, rfl, fun q hq => absurd hq (by simp)⟩
  · exact ⟨_, rfl, rfl, rfl, rfl, fun q hq => absurd hq (by simp)⟩
  · exact ⟨_, rfl, rfl, rfl, rfl, List.forall_mem_cons.2 ⟨⟨{ on := 2, ground := .data }, by simp, rfl, rfl⟩, List.forall_mem_cons.2 ⟨⟨{ on := 3, ground := .data }, by simp, rfl, rfl⟩, fun q hq => absurd hq (by simp)⟩⟩⟩
  · exact ⟨_, rfl, rfl, rfl, rfl, List.forall_mem_cons.2 ⟨⟨{ on := 0, ground := .data }, by simp, rfl, rfl⟩, List.forall_mem_cons.2 ⟨⟨{ on := 1, ground := .data }, by simp, rfl, rfl⟩, List.forall_mem_cons.2 ⟨⟨{ on := 4, ground := .data }, by simp, rfl, rfl⟩, fun q hq => absurd hq (by simp)⟩⟩⟩⟩
  · exact ⟨_, rfl, rfl, rfl, rfl, List.forall_mem_cons.2 ⟨⟨{ on := 5, ground := .data }, by simp, rfl, rfl⟩, fun q hq => absurd hq (by simp)⟩⟩
  · exact ⟨_, rfl, rfl, rfl, rfl, List.forall_mem_cons.2 ⟨⟨{ on := 6, ground := .data }, by simp, rfl, rfl⟩, fun q hq => absurd hq (by simp)⟩⟩
  · exact ⟨_, rfl, rfl, rfl, rfl, List.forall_mem_cons.2 ⟨⟨{ on := 6, ground := .data }, by simp, rfl, rfl⟩, fun q hq => absurd hq (by simp)⟩⟩
  · exact ⟨_, rfl, rfl, rfl, rfl, fun q hq => absurd hq (by simp)⟩
  · exact ⟨_, rfl, rfl, rfl, rfl, List.forall_mem_cons.2 ⟨⟨{ on := 9, ground := .data }, by simp, rfl, rfl⟩, List.forall_mem_cons.2 ⟨⟨{ on := 7, ground := .data }, by simp, rfl, rfl⟩, fun q hq => absurd hq (by simp)⟩⟩⟩
  · exact ⟨_, rfl, rfl, rfl, rfl, List.forall_mem_cons.2 ⟨⟨{ on := 8, ground := .data }, by simp, rfl, rfl⟩, fun q hq => absurd hq (by simp)⟩⟩
  · rfl
  · rfl
  · rfl
  · first | rfl | (show Value.int .i64 _ = _; rw [wm]) | kernel_rfl
  · intro y3 nb v101 v102 v103 v104 v105 v106 v107 v108 v109 K3
    dsimp only [actW]
    go_wp2_with (first
      | ((with_reducible refine at_st rtG (w.heap.size + 4) ZC C1 ?_ ?_ ?_ ?_ (.tmp 8) (.tmp 151) ?_ ?_ ?_ ?_ ?_); exact K5.out.1.2; exact hZ'.out; exact hS1.out; exact K5.out.2.1.lies.size.2.1; rfl; rfl; rfl; rfl; intro yE HE; have KE : Hid (Bx yE (w.heap.size + 4) C1 27 ∧ GO B yE C1 ({ g with me := wr g.me (g.i - 512) g.v m, i := A }) ∧ BK B w yE) := ⟨HE.out.1, (K5.out.2.1).offT (K5.out.1.2) (by decide) (by decide) HE.out.2.2, K5.out.2.2.1.tr hB.out (HE.out.2.1 w.heap.size (Nat.le_add_right _ _))⟩; clear HE)
      | ((with_reducible refine gen_world (y4.setCell ⟨w.heap.size, 16, none⟩ (.int .u16 (A : Int))) (fun yy => (Bx yy w.heap.size C1 27 ∧ Bx yy (w.heap.size + 4) ZC 27) ∧ GO B yy C1 ({ g with me := wr g.me (g.i - 512) g.v m, i := A }) ∧ BK B w yy ∧ True) ?_ ?_); (exact ⟨⟨by rw [hC1.out]; exact heap_setCell_same y4 w.heap.size 16 C 27 _ K4.out.1.1, (heap_setCell_other y4 ⟨w.heap.size, 16, none⟩ (w.heap.size + 4) _ (Nat.ne_of_gt (Nat.lt_add_of_pos_right (by decide)))).trans K4.out.1.2⟩, (by have h := (K4.out.2.1).offT (K4.out.1.1) (by decide) (by decide) (fun q' hq' => heap_setCell_other y4 ⟨w.heap.size, 16, none⟩ q' (.int .u16 (A : Int)) hq'); have h' := h.ri A hA'.out; rw [hC1.out]; exact h'), K4.out.2.2.1.tr hB.out ((Below.refl _ y4).setCell (p := ⟨w.heap.size, 16, none⟩) (Nat.le_refl _) _), trivial⟩); intro y5 K5; clear z16)
      | ((with_reducible refine at_st rtG w.heap.size C C ?_ ?_ ?_ ?_ (.tmp 4) (.tmp 113) ?_ ?_ ?_ ?_ ?_); exact K3.out.1.1; exact gC.out; exact gC.out; exact K3.out.2.1.lies.size.2.1; rfl; rfl; rfl; rfl; intro y4 H4; have K4 : Hid ((Bx y4 w.heap.size C 27 ∧ Bx y4 (w.heap.size + 4) ZC 27) ∧ GO B y4 C ({ g with me := wr g.me (g.i - 512) g.v m }) ∧ BK B w y4 ∧ True) := ⟨⟨H4.out.1, (H4.out.2.2 (w.heap.size + 4) (Nat.ne_of_gt (Nat.lt_add_of_pos_right (by decide)))).trans K3.out.1.2⟩, (K3.out.2.1).offT (K3.out.1.1) (by decide) (by decide) H4.out.2.2, K3.out.2.2.1.tr hB.out (H4.out.2.1 w.heap.size (Nat.le_refl _)), trivial⟩; clear H4; have s16 := (K4.out.1.1).c 16 _ fI.out; have z16 := (K4.out.1.1).fz 16)
      | ((with_reducible refine at_load rtG nb C ?_ ?_ (.tmp 15) ?_ ?_ ?_ ?_); exact K3.out.2.2.2.1; exact gC.out; kernel_rfl; rfl; rfl)
      | ((with_reducible refine at_load rtG w.heap.size C1 ?_ ?_ (.tmp 4) ?_ ?_ ?_ ?_); exact K5.out.1.1; exact hS1.out; kernel_rfl; rfl; rfl))
    exact ret_two rtG rfl rfl rfl KE.out.1 hS1.out rfl ⟨C1, rfl, ⟨KE.out.2.1, KE.out.2.2⟩⟩
theorem rothers_storeno (w : World) (B : Nat) (C D : Array Value) (g : Gm) (f : Fo) (d : Fd) (hG : Hid (GO B w C g)) (hB : Hid (B ≤ w.heap.size)) (hf : Hid (FL w D f)) (hd : Hid d.Ok) (x y n b a : Nat) (hx : x < 16) (hy : y < 16) (hb : b < 256) (ha : a < 65536) (hm3 : g.me.length = 3232) (hft : fitG g.i (x + 1) = false) :
    Calls Tryz.prog 70 #[.agg C, .agg #[.int .u8 30, .int .u8 (x : Int), .int .u8 (y : Int), .int .u8 (n : Int), .int .u8 (b : Int), .int .u16 (a : Int)], .agg D, .agg (dCs d)] w (RdE B w (doG g ⟨30, x, y, n, b, a⟩ f d)) := by
  obtain ⟨ZC, p, q, gC, gD, hZ, hZ', hp, hq, lp, lq, fV, ixx, ixy, ixi, iyi, ibi, iai, ipi, iqi⟩ := pre_do w B C D g f x y b a hG hf hx hy hb ha
  obtain ⟨OC, hOC⟩ := hid_ex #[.int .u8 30, .int .u8 (x : Int), .int .u8 (y : Int), .int .u8 (n : Int), .int .u8 (b : Int), .int .u16 (a : Int)]
  rw [← hOC.out]
  have fI : Hid (C[16]? = some (.int .u16 (g.i : Int))) := hG.out.rest.1
  have iI : (g.i : Int) < 65536 := by have := hG.out.ok.i; omega
  obtain ⟨m, hmx⟩ : ∃ z, x + 1 = z := ⟨_, rfl⟩
  have wm : (x : Int) + 1 = (m : Int) := by omega
  have mi : (m : Int) ≤ 16 := by omega
  have hmm : Hid (0 < m ∧ m ≤ 16) := ⟨by omega, by omega⟩
  have hip : Hid (g.i < 65536) := hG.out.ok.i
  have hm' : Hid (g.me.length = 3232) := hm3
  obtain ⟨A, hA⟩ : ∃ z, (g.i + m) % 65536 = z := ⟨_, rfl⟩
  have hA' : Hid (A < 65536) := by show A < 65536; omega
  have wA : IntKind.u16.wrap ((g.i : Int) + (m : Int)) = (A : Int) := by rw [IntKind.wrap_u16]; omega
  have wA' : ((g.i : Int) + (m : Int)) % 65536 = (A : Int) := by omega
  obtain ⟨gM, cM, eM, lM1, lM2⟩ := hG.out.memAt hm3
  have hMM : Hid (C[22]? = some (.slice (some ⟨gM, 0, none⟩) 3232 cM) ∧ B ≤ gM ∧ gM < w.heap.size) := ⟨eM, lM1, lM2⟩
  rw [hmx] at hft
  have hft' : Hid (fitG g.i m = false) := hft
  have hg2 : Hid ((if false = true then { g with me := wr g.me (g.i - 512) (g.v.take m) m } else g) = g) := by
    show _ = _
    exact if_neg (by decide)
  have eR : Hid (doG g ⟨30, x, y, n, b, a⟩ f d = (g, 7)) := by
    show (if fitG g.i (x + 1) then (({ g with me := wr g.me (g.i - 512) g.v (x + 1), i := (g.i + (x + 1)) % 65536 } : Gm), 1) else (g, 7)) = _
    rw [hmx, hft'.out, hA]
    rfl
  rw [eR.out]
  have hz5 : Hid (w.heap.size + 5 ≤ w.heap.size + 5) := Nat.le_refl _
  clear hx hy hb ha hp hq lp lq eM lM1 lM2 hm3 hft hmx hA
  go_enter Tryz.func70, Tryz.ntmps70
  go_upto_region 25 with (first
    | ((with_reducible refine gen_world (((((w.alloc (.cells C 27)).alloc (.cells OC 60)).alloc (.cells D 30)).alloc (.cells (dCs d) 38)).alloc (.cells z23A 27)) (fun y => Fm w [(w.heap.size, C, 27), (w.heap.size + 1, OC, 60), (w.heap.size + 2, D, 30), (w.heap.size + 3, (dCs d), 38), (w.heap.size + 4, ZC, 27)] y ∧ GO B y C g) ?_ ?_); (rw [hZ.out]; unfold gZ; exact ⟨Fm.five w _ _ _ _ _ _ _ _ _ _, hG.out.below (Fm.five w _ _ _ _ _ _ _ _ _ _).low⟩); intro y0 K0; obtain ⟨v1, v2, e0, e1, e2, e4, e5⟩ := five_cells (K := 30) K0.out.1 fV.out hOC.out; have e16 := (K0.out.1.bx 0 _ _ _ rfl).c 16 _ fI.out))
  refine regW w B C ZC g (g) gM cM g.i m false hZ.out hZ'.out gC.out hB.out hm'.out hMM.out.1 hMM.out.2 hip.out hmm.out.1 hmm.out.2 hft'.out hg2.out ?_ ?_ ?_ ?_ ?_ ?_ ?_ ?_ ?_ ?_ ?_ ?_ ?_ ?_ ?_ ?_ ?_ ?_ ⟨K0.out.1.bx 0 _ _ _ rfl, K0.out.1.bx 4 _ _ _ rfl⟩ K0.out.2 (BK.ofLow K0.out.1.low hB.out) (Nat.succ_le_of_lt (heap_lt (K0.out.1.bx 4 _ _ _ rfl))) ?_
  · rfl
  · kernel_rfl
  · exact ⟨_, rfl, rfl, rfl, rfl, fun q hq => absurd hq (by simp)⟩
  · exact ⟨_, rfl, rfl, rfl, rfl, fun q hq => absurd hq (by simp)⟩
  · exact ⟨_, rfl, rfl, rfl, rfl, fun q hq => absurd hq (by simp)⟩
  · exact ⟨_, rfl, rfl, rfl, rfl, fun q hq => absurd hq (by simp)⟩
  · exact ⟨_, rfl, rfl, rfl, rfl, List.forall_mem_cons.2 ⟨⟨{ on := 2, ground := .data }, by simp, rfl, rfl⟩, List.forall_mem_cons.2 ⟨⟨{ on := 3, ground := .data }, by simp, rfl, rfl⟩, fun q hq => absurd hq (by simp)⟩⟩⟩
  · exact ⟨_, rfl, rfl, rfl, rfl, List.forall_mem_cons.2 ⟨⟨{ on := 0, ground := .data }, by simp, rfl, rfl⟩, List.forall_mem_cons.2 ⟨⟨{ on := 1, ground := .data }, by simp, rfl, rfl⟩, List.forall_mem_cons.2 ⟨⟨{ on := 4, ground := .data }, by simp, rfl, rfl⟩, fun q hq => absurd hq (by simp)⟩⟩⟩⟩
  · exact ⟨_, rfl, rfl, rfl, rfl, List.forall_mem_cons.2 ⟨⟨{ on := 5, ground := .data }, by simp, rfl, rfl⟩, fun q hq => absurd hq (by simp)⟩⟩
  · exact ⟨_, rfl, rfl, rfl, rfl, List.forall_mem_cons.2 ⟨⟨{ on := 6, ground := .data }, by simp, rfl, rfl⟩, fun q hq => absurd hq (by simp)⟩⟩
  · exact ⟨_, rfl, rfl, rfl, rfl, List.forall_mem_cons.2 ⟨⟨{ on := 6, ground := .data }, by simp, rfl, rfl⟩, fun q hq => absurd hq (by simp)⟩⟩
  · exact ⟨_, rfl, rfl, rfl, rfl, fun q hq => absurd hq (by simp)⟩
  · exact ⟨_, rfl, rfl, rfl, rfl, List.forall_mem_cons.2 ⟨⟨{ on := 9, ground := .data }, by simp, rfl, rfl⟩, List.forall_mem_cons.2 ⟨⟨{ on := 7, ground := .data }, by simp, rfl, rfl⟩, fun q hq => absurd hq (by simp)⟩⟩⟩
  · exact ⟨_, rfl, rfl, rfl, rfl, List.forall_mem_cons.2 ⟨⟨{ on := 8, ground := .data }, by simp, rfl, rfl⟩, fun q hq => absurd hq (by simp)⟩⟩
  · rfl
  · rfl
  · rfl
  · first | rfl | (show Value.int .i64 _ = _; rw [wm]) | kernel_rfl
  · intro y3 nb v101 v102 v103 v104 v105 v106 v107 v108 v109 K3
    dsimp only [actW]
    go_wp2_with (first
      | ((with_reducible refine at_st rtG (w.heap.size + 4) ZC C ?_ ?_ ?_ ?_ (.tmp 8) (.tmp 112) ?_ ?_ ?_ ?_ ?_); exact K3.out.1.2; exact hZ'.out; exact gC.out; exact K3.out.2.1.lies.size.2.1; rfl; rfl; rfl; rfl; intro yE HE; have KE : Hid (Bx yE (w.heap.size + 4) C 27 ∧ GO B yE C (g) ∧ BK B w yE) := ⟨HE.out.1, (K3.out.2.1).offT (K3.out.1.2) (by decide) (by decide) HE.out.2.2, K3.out.2.2.1.tr hB.out (HE.out.2.1 w.heap.size (Nat.le_add_right _ _))⟩; clear HE)
      | ((with_reducible refine at_load rtG w.heap.size C ?_ ?_ (.tmp 4) ?_ ?_ ?_ ?_); exact K3.out.1.1; exact gC.out; kernel_rfl; rfl; rfl))
    exact ret_two rtG rfl rfl rfl KE.out.1 gC.out rfl ⟨C, rfl, ⟨KE.out.2.1, KE.out.2.2⟩⟩
end Go.Proofs.YteipjkjpeookaaaGreat
