/- The document's own: do: a call. -/
import Derived.Test.YteipjkjpeookaaaGreatJ35
namespace Go.Proofs.YteipjkjpeookaaaGreat
open Go Go.RowKit Go.Shelf
set_option linter.unusedVariables false
set_option maxHeartbeats 1000000
set_option maxRecDepth 100000

theorem rdo_call (w : World) (B : Nat) (C D : Array Value) (g : Gm) (f : Fo) (d : Fd) (hG : Hid (GO B w C g)) (hB : Hid (B ≤ w.heap.size)) (hf : Hid (FL w D f)) (hd : Hid d.Ok) (x y n b a : Nat) (hx : x < 16) (hy : y < 16) (hb : b < 256) (ha : a < 65536) (hs : g.st.length ≤ 12) (hs2 : g.st.length ≠ 12) :
    Calls Tryz.prog 31 #[.agg C, .agg #[.int .u8 5, .int .u8 (x : Int), .int .u8 (y : Int), .int .u8 (n : Int), .int .u8 (b : Int), .int .u16 (a : Int)], .agg D, .agg (dCs d)] w (RdE B w (doG g ⟨5, x, y, n, b, a⟩ f d)) := by
  obtain ⟨ZC, p, q, gC, gD, hZ, hZ', hp, hq, lp, lq, fV, ixx, ixy, ixi, iyi, ibi, iai, ipi, iqi⟩ := pre_do w B C D g f x y b a hG hf hx hy hb ha
  obtain ⟨OC, hOC⟩ := hid_ex #[.int .u8 5, .int .u8 (x : Int), .int .u8 (y : Int), .int .u8 (n : Int), .int .u8 (b : Int), .int .u16 (a : Int)]
  rw [← hOC.out]
  obtain ⟨N, hN⟩ : ∃ z, g.st.length = z := ⟨_, rfl⟩
  obtain ⟨sp, cS, eS⟩ := hG.out.stR
  rw [hN] at eS
  obtain ⟨P0, hP0⟩ : ∃ z, g.pc = z := ⟨_, rfl⟩
  have fS : Hid (C[18]? = some (.slice sp N cS) ∧ C[17]? = some (.int .u16 (P0 : Int))) := ⟨eS, by rw [← hP0]; exact hG.out.rest.2.1⟩
  have hN' : Hid (g.st.length = N ∧ g.pc = P0 ∧ N ≤ 12) := ⟨hN, hP0, by omega⟩
  have qN : ((N : Int) == 12) = false := by simp; omega
  have iN : (N : Int) ≤ 12 := by omega
  have hown : Hid (∀ y, GO B y C g → OwnL 23 1 cW B y (.slice sp N cS) g.st) := fun y h => by
    obtain ⟨⟨vS, vP, vM, e, h1, _⟩, _⟩ := h
    have eS2 : vS = .slice sp N cS := by
      have h2 := fS.out.1
      rw [e] at h2
      exact Option.some.inj h2
    rw [← eS2]
    exact h1
  have eR : Hid (doG g ⟨5, x, y, n, b, a⟩ f d = ({ g with st := g.st ++ [g.pc], pc := a }, 1)) := by
    show _ = _
    rw [do_call _ _ _ _ rfl, if_neg (by omega)]
  rw [eR.out]
  have haa : Hid (a < 65536) := ha
  clear hx hy hb ha hp hq lp lq hs hs2 hN eS hP0
  go_enter Tryz.func31, Tryz.ntmps31
  go_wp2_with (first
    | ((with_reducible refine at_st rtG (w.heap.size + 4) ZC C2 ?_ ?_ ?_ ?_ (.tmp 8) (.tmp 196) ?_ ?_ ?_ ?_ ?_); exact K4.out.1.2.2; exact hZ'.out; exact hS2.out; exact K4.out.2.1.lies.size.2.1; rfl; rfl; rfl; rfl; intro yE HE; have KE : Hid (Bx yE (w.heap.size + 4) C2 27 ∧ GO B yE C2 { g with st := g.st ++ [g.pc], pc := a } ∧ BK B w yE) := ⟨HE.out.1, (K4.out.2.1).offT (K4.out.1.2.2) (by decide) (by decide) HE.out.2.2, K4.out.2.2.tr hB.out (HE.out.2.1 w.heap.size (Nat.le_add_right _ _))⟩; clear HE)
    | ((with_reducible refine gen_world (y3.setCell ⟨w.heap.size, 17, none⟩ (.int .u16 (a : Int))) (fun yy => (Bx yy w.heap.size C2 27 ∧ Bx yy (w.heap.size + 1) OC 60 ∧ Bx yy (w.heap.size + 4) ZC 27) ∧ GO B yy C2 { g with st := g.st ++ [g.pc], pc := a } ∧ BK B w yy) ?_ ?_); (exact ⟨⟨(by have h := heap_setCell_same y3 w.heap.size 17 C1 27 (.int .u16 (a : Int)) K3.out.1.1; rw [← hC2.out] at h; exact h), (heap_setCell_other y3 ⟨w.heap.size, 17, none⟩ (w.heap.size + 1) _ (Nat.ne_of_gt (Nat.lt_succ_self _))).trans K3.out.1.2.1, (heap_setCell_other y3 ⟨w.heap.size, 17, none⟩ (w.heap.size + 4) _ (Nat.ne_of_gt (Nat.lt_add_of_pos_right (by decide)))).trans K3.out.1.2.2⟩, (by have h := (K3.out.2.1).offT (K3.out.1.1) (by decide) (by decide) (fun q' hq' => heap_setCell_other y3 ⟨w.heap.size, 17, none⟩ q' (.int .u16 (a : Int)) hq'); have h' := h.rpc a haa.out; rw [hC2.out]; exact h'), K3.out.2.2.tr hB.out ((Below.refl w.heap.size y3).setCell (p := ⟨w.heap.size, 17, none⟩) (Nat.le_refl _) _)⟩); intro y4 K4)
    | ((with_reducible refine gen_world (y2.setCell ⟨w.heap.size, 18, none⟩ (.slice sv M cv)) (fun yy => (Bx yy w.heap.size C1 27 ∧ Bx yy (w.heap.size + 1) OC 60 ∧ Bx yy (w.heap.size + 4) ZC 27) ∧ GO B yy C1 { g with st := g.st ++ [g.pc] } ∧ BK B w yy) ?_ ?_); (exact ⟨⟨(by have h := heap_setCell_same y2 w.heap.size 18 C 27 (.slice sv M cv) K2.out.1.1; rw [← hC1.out] at h; exact h), (heap_setCell_other y2 ⟨w.heap.size, 18, none⟩ (w.heap.size + 1) _ (Nat.ne_of_gt (Nat.lt_succ_self _))).trans K2.out.1.2.1, (heap_setCell_other y2 ⟨w.heap.size, 18, none⟩ (w.heap.size + 4) _ (Nat.ne_of_gt (Nat.lt_add_of_pos_right (by decide)))).trans K2.out.1.2.2⟩, (by have h := (K2.out.2.1).offT (K2.out.1.1) (by decide) (by decide) (fun q' hq' => heap_setCell_other y2 ⟨w.heap.size, 18, none⟩ q' (.slice sv M cv) hq'); rw [hC1.out]; exact h), K2.out.2.2.tr hB.out ((Below.refl w.heap.size y2).setCell (p := ⟨w.heap.size, 18, none⟩) (Nat.le_refl _) _)⟩); intro y3 K3; have e5' := K3.out.1.2.1.c 5 (.int .u16 (a : Int)) (by rw [hOC.out]; rfl); have s17 := K3.out.1.1.c 17 _ f17.out; have z17 := K3.out.1.1.fz 17)
    | ((with_reducible refine at_appL kWord ?_ (.tmp 80) (.tmp 83) ?_ B (.slice sp N cS) g.st ?_ ?_ y0.heap.size P0 ?_ ?_ ?_ ?_ ?_); rfl; rfl; rfl; exact hown.out y1 K1.out.2.1; rfl; exact K1.out.2.2.1; (rw [hN'.out.1]; exact Nat.le_trans hN'.out.2.2 (by decide)); exact K1.out.2.2.2.1; intro v' y2 H0; have H : Hid (App1L 23 1 cW B (.slice sp N cS) g.st g.pc v' y1 y2) := (by have h := H0.out; rw [← hN'.out.2.1] at h; exact h); clear H0; obtain ⟨sv, cv, ev, _⟩ := OwnL.open kWord.len H.out.own; obtain ⟨M, hM⟩ : ∃ z, (g.st ++ [g.pc]).length = z := ⟨_, rfl⟩; rw [hM] at ev; clear hM; subst ev; obtain ⟨C1, hC1⟩ : ∃ z, Hid (z = C.setIfInBounds 18 (.slice sv M cv)) := ⟨_, (rfl : C.setIfInBounds 18 (.slice sv M cv) = _)⟩; have hS1 : Hid (C1.size = 23) := (by show _ = _; rw [hC1.out, Array.size_setIfInBounds]; exact gC.out); obtain ⟨C2, hC2⟩ : ∃ z, Hid (z = C1.setIfInBounds 17 (.int .u16 (a : Int))) := ⟨_, (rfl : C1.setIfInBounds 17 (.int .u16 (a : Int)) = _)⟩; have hS2 : Hid (C2.size = 23) := (by show _ = _; rw [hC2.out, Array.size_setIfInBounds]; exact hS1.out); have f17 : Hid (C1[17]? = some (.int .u16 (P0 : Int))) := (by show _ = _; rw [hC1.out, Array.getElem?_setIfInBounds_ne (by decide)]; exact fS.out.2); have K2 : Hid ((Bx y2 w.heap.size C 27 ∧ Bx y2 (w.heap.size + 1) OC 60 ∧ Bx y2 (w.heap.size + 4) ZC 27) ∧ GO B y2 (C.setIfInBounds 18 (.slice sv M cv)) { g with st := g.st ++ [g.pc] } ∧ BK B w y2) := ⟨⟨app_box K1.out.2.1 fS.out.1 H.out (K1.out.1.1) (by decide), app_box K1.out.2.1 fS.out.1 H.out (K1.out.1.2.1) (by decide), app_box K1.out.2.1 fS.out.1 H.out (K1.out.1.2.2) (by decide)⟩, GO.app K1.out.2.1 fS.out.1 H.out, (BK.ofLow K1.out.2.2.2.2 hB.out).cu H.out.cu (fun q j hF => app_ty K1.out.2.1 fS.out.1 hF.1)⟩; have c18b := K2.out.1.1.c 18 _ fS.out.1; have z18 := K2.out.1.1.fz 18)
    | ((with_reducible refine gen_world (y0.alloc (.cells (cW P0).toArray 23)) (fun yy => (Bx yy w.heap.size C 27 ∧ Bx yy (w.heap.size + 1) OC 60 ∧ Bx yy (w.heap.size + 4) ZC 27) ∧ GO B yy C g ∧ Bx yy y0.heap.size (cW P0).toArray 23 ∧ B ≤ yy.heap.size ∧ Below w.heap.size w yy) ?_ ?_); (exact ⟨⟨((below1 y0 _).block _ (heap_lt (K0.out.1.bx 0 _ _ _ rfl))).trans (K0.out.1.bx 0 _ _ _ rfl), ((below1 y0 _).block _ (heap_lt (K0.out.1.bx 1 _ _ _ rfl))).trans (K0.out.1.bx 1 _ _ _ rfl), ((below1 y0 _).block _ (heap_lt (K0.out.1.bx 4 _ _ _ rfl))).trans (K0.out.1.bx 4 _ _ _ rfl)⟩, K0.out.2.below (below1 y0 _), one_bxL y0 _ _, Nat.le_trans hB.out (Nat.le_trans K0.out.1.low.size (below1 y0 _).size), K0.out.1.low.trans ((below1 y0 _).mono K0.out.1.low.size)⟩); intro y1 K1)
    | ((with_reducible refine at_bsW P0 (.tmp 82) ?_ ?_ ?_ ?_); rfl; rfl; rfl)
    | ((with_reducible refine gen_world (((((w.alloc (.cells C 27)).alloc (.cells OC 60)).alloc (.cells D 30)).alloc (.cells (dCs d) 38)).alloc (.cells z23A 27)) (fun y => Fm w [(w.heap.size, C, 27), (w.heap.size + 1, OC, 60), (w.heap.size + 2, D, 30), (w.heap.size + 3, (dCs d), 38), (w.heap.size + 4, ZC, 27)] y ∧ GO B y C g) ?_ ?_); (rw [hZ.out]; unfold gZ; exact ⟨Fm.five w _ _ _ _ _ _ _ _ _ _, hG.out.below (Fm.five w _ _ _ _ _ _ _ _ _ _).low⟩); intro y0 K0; obtain ⟨v1, v2, e0, e1, e2, e4, e5⟩ := five_cells (K := 5) K0.out.1 fV.out hOC.out; have c18 := (K0.out.1.bx 0 _ _ _ rfl).c 18 _ fS.out.1; have c17 := (K0.out.1.bx 0 _ _ _ rfl).c 17 _ fS.out.2)
    | ((with_reducible refine at_load rtG w.heap.size C2 ?_ ?_ (.tmp 4) ?_ ?_ ?_ ?_); exact K4.out.1.1; exact hS2.out; kernel_rfl; rfl; rfl))
  exact ret_two rtG rfl rfl rfl KE.out.1 hS2.out rfl ⟨C2, rfl, ⟨KE.out.2.1, KE.out.2.2⟩⟩
end Go.Proofs.YteipjkjpeookaaaGreat
