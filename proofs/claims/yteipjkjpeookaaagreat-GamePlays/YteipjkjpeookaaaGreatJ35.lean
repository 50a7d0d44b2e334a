/- The document's own: do: clear, return, a call too deep. The document's own: do: clear, a call. -/
import Derived.Test.YteipjkjpeookaaaGreatJ28
namespace Go.Proofs.YteipjkjpeookaaaGreat
open Go Go.RowKit Go.Shelf
set_option linter.unusedVariables false
set_option maxHeartbeats 1000000
set_option maxRecDepth 100000

theorem GO.stR {B : Nat} {w : World} {C : Array Value} {g : Gm} (h : GO B w C g) : ∃ s c, C[18]? = some (.slice s g.st.length c) := by
  obtain ⟨⟨vS, vP, vM, e, h1, h2, h3, h4⟩, ok⟩ := h
  obtain ⟨s1, c1, e1, _⟩ := OwnL.open kWord.len h1
  exact ⟨s1, c1, by rw [e, e1]; rfl⟩
theorem GO.stL {B : Nat} {w : World} {C : Array Value} {g : Gm} (h : GO B w C g) (n : Nat) (hn : n < g.st.length) : ∃ gS c, C[18]? = some (.slice (some ⟨gS, 0, none⟩) g.st.length c) ∧ 0 < c ∧ n ≤ c ∧ w.cell? ⟨gS, n, none⟩ = some (.int .u16 ((g.st.getD n 0 : Nat) : Int)) := by
  obtain ⟨⟨vS, vP, vM, e, h1, h2, h3, h4⟩, ok⟩ := h
  obtain ⟨s1, c1, e1, hl, k0, _, hc⟩ := OwnL.open kWord.len h1
  obtain ⟨gb, ob, rfl⟩ := lw_some hl (by omega)
  obtain rfl : ob = 0 := (k0 _ rfl).1
  have := lw_at hl n hn
  rw [Nat.zero_add] at this
  exact ⟨gb, c1, by rw [e, e1]; rfl, by omega, by omega, this⟩
theorem GO.rtake {B : Nat} {w : World} {C : Array Value} {g : Gm} (h : GO B w C g) {gS n cS : Nat} (hC : C[18]? = some (.slice (some ⟨gS, 0, none⟩) n cS)) (k : Nat) (hk : k ≤ g.st.length) : GO B w (C.setIfInBounds 18 (.slice (some ⟨gS, 0, none⟩) k cS)) { g with st := g.st.take k } := by
  have h0 := h
  obtain ⟨⟨vS, vP, vM, e, h1, h2, h3, h4⟩, ok⟩ := h
  have eS : vS = .slice (some ⟨gS, 0, none⟩) n cS := by
    rw [e] at hC
    exact Option.some.inj hC
  rw [eS] at h1
  exact h0.rst _ _ (own_take h1 hk) fun s hs => ok.st s (List.mem_of_mem_take hs)
theorem GO.memlt {B : Nat} {w : World} {C : Array Value} {g : Gm} (h : GO B w C g) {v : Value} (hv : C[22]? = some v) {q : Nat} (hq : v.ownBlock = some q) : q < w.heap.size := by
  obtain ⟨⟨vS, vP, vM, e, h1, h2, h3, h4⟩, ok⟩ := h
  have eM : vM = v := by
    rw [e] at hv
    exact Option.some.inj hv
  subst eM
  exact (h3.lt q hq).2
theorem rdo_retno (w : World) (B : Nat) (C D : Array Value) (g : Gm) (f : Fo) (d : Fd) (hG : Hid (GO B w C g)) (hB : Hid (B ≤ w.heap.size)) (hf : Hid (FL w D f)) (hd : Hid d.Ok) (x y n b a : Nat) (hx : x < 16) (hy : y < 16) (hb : b < 256) (ha : a < 65536) (hs : g.st.length = 0) :
    Calls Tryz.prog 31 #[.agg C, .agg #[.int .u8 3, .int .u8 (x : Int), .int .u8 (y : Int), .int .u8 (n : Int), .int .u8 (b : Int), .int .u16 (a : Int)], .agg D, .agg (dCs d)] w (RdE B w (doG g ⟨3, x, y, n, b, a⟩ f d)) := by
  obtain ⟨ZC, p, q, gC, gD, hZ, hZ', hp, hq, lp, lq, fV, ixx, ixy, ixi, iyi, ibi, iai, ipi, iqi⟩ := pre_do w B C D g f x y b a hG hf hx hy hb ha
  obtain ⟨OC, hOC⟩ := hid_ex #[.int .u8 3, .int .u8 (x : Int), .int .u8 (y : Int), .int .u8 (n : Int), .int .u8 (b : Int), .int .u16 (a : Int)]
  rw [← hOC.out]
  have hs' : Hid (g.st.length = 0) := hs
  obtain ⟨sp, cS, eS⟩ := hG.out.stR
  rw [hs] at eS
  have fS : Hid (C[18]? = some (.slice sp 0 cS)) := eS
  have eR : Hid (doG g ⟨3, x, y, n, b, a⟩ f d = (g, 6)) := by
    show _ = _
    (rw [do_ret _ _ _ _ rfl, if_pos hs'.out])
  rw [eR.out]
  have hxx : Hid (x < 16 ∧ y < 16 ∧ b < 256 ∧ a < 65536) := ⟨hx, hy, hb, ha⟩
  clear hx hy hb ha hp hq lp lq hs eS
  go_enter Tryz.func31, Tryz.ntmps31
  go_wp2_with (first
    | ((with_reducible refine at_st rtG (w.heap.size + 4) ZC C ?_ ?_ ?_ ?_ (.tmp 8) (.tmp 43) ?_ ?_ ?_ ?_ ?_); exact K0.out.1.bx 4 _ _ _ rfl; exact hZ'.out; exact gC.out; exact K0.out.2.lies.size.2.1; rfl; rfl; rfl; rfl; intro yE HE; have KE : Hid (Fm w [(w.heap.size, C, 27), (w.heap.size + 1, OC, 60), (w.heap.size + 2, D, 30), (w.heap.size + 3, (dCs d), 38), (w.heap.size + 4, C, 27)] yE ∧ GO B yE C g) := ⟨K0.out.1.put 4 _ _ _ _ rfl HE.out, (K0.out.2).offT (K0.out.1.bx 4 _ _ _ rfl) (by decide) (by decide) HE.out.2.2⟩; clear HE)
    | ((with_reducible refine gen_world (((((w.alloc (.cells C 27)).alloc (.cells OC 60)).alloc (.cells D 30)).alloc (.cells (dCs d) 38)).alloc (.cells z23A 27)) (fun y => Fm w [(w.heap.size, C, 27), (w.heap.size + 1, OC, 60), (w.heap.size + 2, D, 30), (w.heap.size + 3, (dCs d), 38), (w.heap.size + 4, ZC, 27)] y ∧ GO B y C g) ?_ ?_); (rw [hZ.out]; unfold gZ; exact ⟨Fm.five w _ _ _ _ _ _ _ _ _ _, hG.out.below (Fm.five w _ _ _ _ _ _ _ _ _ _).low⟩); intro y0 K0; obtain ⟨v1, v2, e0, e1, e2, e4, e5⟩ := five_cells (K := 3) K0.out.1 fV.out hOC.out; have c18 := (K0.out.1.bx 0 _ _ _ rfl).c 18 _ fS.out)
    | ((with_reducible refine at_load rtG w.heap.size C ?_ ?_ (.tmp 4) ?_ ?_ ?_ ?_); exact K0.out.1.bx 0 _ _ _ rfl; exact gC.out; kernel_rfl; rfl; rfl))
  exact ret_two rtG rfl rfl rfl (KE.out.1.bx 4 _ _ _ rfl) gC.out rfl ⟨C, rfl, ⟨KE.out.2, BK.ofLow KE.out.1.low hB.out⟩⟩
theorem rdo_deep (w : World) (B : Nat) (C D : Array Value) (g : Gm) (f : Fo) (d : Fd) (hG : Hid (GO B w C g)) (hB : Hid (B ≤ w.heap.size)) (hf : Hid (FL w D f)) (hd : Hid d.Ok) (x y n b a : Nat) (hx : x < 16) (hy : y < 16) (hb : b < 256) (ha : a < 65536) (hs : g.st.length = 12) :
    Calls Tryz.prog 31 #[.agg C, .agg #[.int .u8 5, .int .u8 (x : Int), .int .u8 (y : Int), .int .u8 (n : Int), .int .u8 (b : Int), .int .u16 (a : Int)], .agg D, .agg (dCs d)] w (RdE B w (doG g ⟨5, x, y, n, b, a⟩ f d)) := by
  obtain ⟨ZC, p, q, gC, gD, hZ, hZ', hp, hq, lp, lq, fV, ixx, ixy, ixi, iyi, ibi, iai, ipi, iqi⟩ := pre_do w B C D g f x y b a hG hf hx hy hb ha
  obtain ⟨OC, hOC⟩ := hid_ex #[.int .u8 5, .int .u8 (x : Int), .int .u8 (y : Int), .int .u8 (n : Int), .int .u8 (b : Int), .int .u16 (a : Int)]
  rw [← hOC.out]
  have hs' : Hid (g.st.length = 12) := hs
  obtain ⟨sp, cS, eS⟩ := hG.out.stR
  rw [hs] at eS
  have fS : Hid (C[18]? = some (.slice sp 12 cS)) := eS
  have eR : Hid (doG g ⟨5, x, y, n, b, a⟩ f d = (g, 5)) := by
    show _ = _
    (rw [do_call _ _ _ _ rfl, if_pos hs'.out])
  rw [eR.out]
  have hxx : Hid (x < 16 ∧ y < 16 ∧ b < 256 ∧ a < 65536) := ⟨hx, hy, hb, ha⟩
  clear hx hy hb ha hp hq lp lq hs eS
  go_enter Tryz.func31, Tryz.ntmps31
  go_wp2_with (first
    | ((with_reducible refine at_st rtG (w.heap.size + 4) ZC C ?_ ?_ ?_ ?_ (.tmp 8) (.tmp 78) ?_ ?_ ?_ ?_ ?_); exact K0.out.1.bx 4 _ _ _ rfl; exact hZ'.out; exact gC.out; exact K0.out.2.lies.size.2.1; rfl; rfl; rfl; rfl; intro yE HE; have KE : Hid (Fm w [(w.heap.size, C, 27), (w.heap.size + 1, OC, 60), (w.heap.size + 2, D, 30), (w.heap.size + 3, (dCs d), 38), (w.heap.size + 4, C, 27)] yE ∧ GO B yE C g) := ⟨K0.out.1.put 4 _ _ _ _ rfl HE.out, (K0.out.2).offT (K0.out.1.bx 4 _ _ _ rfl) (by decide) (by decide) HE.out.2.2⟩; clear HE)
    | ((with_reducible refine gen_world (((((w.alloc (.cells C 27)).alloc (.cells OC 60)).alloc (.cells D 30)).alloc (.cells (dCs d) 38)).alloc (.cells z23A 27)) (fun y => Fm w [(w.heap.size, C, 27), (w.heap.size + 1, OC, 60), (w.heap.size + 2, D, 30), (w.heap.size + 3, (dCs d), 38), (w.heap.size + 4, ZC, 27)] y ∧ GO B y C g) ?_ ?_); (rw [hZ.out]; unfold gZ; exact ⟨Fm.five w _ _ _ _ _ _ _ _ _ _, hG.out.below (Fm.five w _ _ _ _ _ _ _ _ _ _).low⟩); intro y0 K0; obtain ⟨v1, v2, e0, e1, e2, e4, e5⟩ := five_cells (K := 5) K0.out.1 fV.out hOC.out; have c18 := (K0.out.1.bx 0 _ _ _ rfl).c 18 _ fS.out)
    | ((with_reducible refine at_load rtG w.heap.size C ?_ ?_ (.tmp 4) ?_ ?_ ?_ ?_); exact K0.out.1.bx 0 _ _ _ rfl; exact gC.out; kernel_rfl; rfl; rfl))
  exact ret_two rtG rfl rfl rfl (KE.out.1.bx 4 _ _ _ rfl) gC.out rfl ⟨C, rfl, ⟨KE.out.2, BK.ofLow KE.out.1.low hB.out⟩⟩
theorem rdo_ret (w : World) (B : Nat) (C D : Array Value) (g : Gm) (f : Fo) (d : Fd) (hG : Hid (GO B w C g)) (hB : Hid (B ≤ w.heap.size)) (hf : Hid (FL w D f)) (hd : Hid d.Ok) (x y n b a : Nat) (hx : x < 16) (hy : y < 16) (hb : b < 256) (ha : a < 65536) (hs : 0 < g.st.length) (h12 : g.st.length ≤ 12) :
    Calls Tryz.prog 31 #[.agg C, .agg #[.int .u8 3, .int .u8 (x : Int), .int .u8 (y : Int), .int .u8 (n : Int), .int .u8 (b : Int), .int .u16 (a : Int)], .agg D, .agg (dCs d)] w (RdE B w (doG g ⟨3, x, y, n, b, a⟩ f d)) := by
  obtain ⟨ZC, p, q, gC, gD, hZ, hZ', hp, hq, lp, lq, fV, ixx, ixy, ixi, iyi, ibi, iai, ipi, iqi⟩ := pre_do w B C D g f x y b a hG hf hx hy hb ha
  obtain ⟨OC, hOC⟩ := hid_ex #[.int .u8 3, .int .u8 (x : Int), .int .u8 (y : Int), .int .u8 (n : Int), .int .u8 (b : Int), .int .u16 (a : Int)]
  rw [← hOC.out]
  obtain ⟨N, hN⟩ : ∃ z, g.st.length = z := ⟨_, rfl⟩
  obtain ⟨m, hm⟩ : ∃ z, N - 1 = z := ⟨_, rfl⟩
  obtain ⟨gS, cS, eS, hc0, hcm, cL⟩ := hG.out.stL m (by omega)
  rw [hN] at eS
  obtain ⟨L, hL⟩ : ∃ z, g.st.getD m 0 = z := ⟨_, rfl⟩
  rw [hL] at cL
  have hL' : Hid (L < 65536) := by
    show L < 65536
    rw [← hL, List.getD_eq_getElem?_getD]
    rcases e : g.st[m]? with _ | s
    · decide
    · exact hG.out.ok.st s (List.mem_of_getElem? e)
  have hm' : Hid (m ≤ g.st.length) := by show m ≤ _; omega
  have hn0 : Hid (¬ g.st.length = 0) := by show ¬ _; omega
  have hNm : Hid (g.st.length - 1 = m) := by show _ = _; omega
  have hL0 : Hid (g.st.getD m 0 = L) := hL
  have wN : (N : Int) - 1 = (m : Int) := by omega
  have iN : (N : Int) ≤ 12 := by omega
  have qN : ((N : Int) == 0) = false := by simp; omega
  have fS : Hid (C[18]? = some (.slice (some ⟨gS, 0, none⟩) N cS)) := eS
  have hsl : Hid (∀ v, (Instr.sliceAt 24 (.slice (some ⟨gS, 0, none⟩) N cS) none (some (.int .i64 (m : Int))) none).run Tryz.prog v = .ok (.slice (some ⟨gS, 0, none⟩) m cS) v) := fun v => slH gS N cS m hcm hc0 v
  have ixL := fun v => idxW .i64 gS 0 N cS m v (by omega)
  simp only [Nat.zero_add] at ixL
  have fL : Hid (w.cell? ⟨gS, m, none⟩ = some (.int .u16 (L : Int)) ∧ gS < w.heap.size) := ⟨cL, World.block_lt_of_cell? w _ cL⟩
  obtain ⟨C1, hC1⟩ : ∃ z, Hid (z = C.setIfInBounds 17 (.int .u16 (L : Int))) := ⟨_, (rfl : C.setIfInBounds 17 (.int .u16 (L : Int)) = _)⟩
  have hS1 : Hid (C1.size = 23) := by show _ = _; rw [hC1.out, Array.size_setIfInBounds]; exact gC.out
  obtain ⟨C2, hC2⟩ : ∃ z, Hid (z = C1.setIfInBounds 18 (.slice (some ⟨gS, 0, none⟩) m cS)) := ⟨_, (rfl : C1.setIfInBounds 18 (.slice (some ⟨gS, 0, none⟩) m cS) = _)⟩
  have hS2 : Hid (C2.size = 23) := by show _ = _; rw [hC2.out, Array.size_setIfInBounds]; exact hS1.out
  have ho2 : Hid (C1[18]? = some (.slice (some ⟨gS, 0, none⟩) N cS)) := by show _ = _; rw [hC1.out, Array.getElem?_setIfInBounds_ne (by decide)]; exact fS.out
  have eR : Hid (doG g ⟨3, x, y, n, b, a⟩ f d = ({ g with pc := L, st := g.st.take m }, 1)) := by
    show _ = _
    (rw [do_ret _ _ _ _ rfl, if_neg hn0.out, hNm.out, hL0.out])
  rw [eR.out]
  have hxx : Hid (x < 16 ∧ y < 16 ∧ b < 256 ∧ a < 65536) := ⟨hx, hy, hb, ha⟩
  clear hx hy hb ha hp hq lp lq hs h12 hN hm eS hc0 hcm hL cL
  go_enter Tryz.func31, Tryz.ntmps31
  go_wp2_with (first
    | ((with_reducible refine at_st rtG (w.heap.size + 4) ZC C2 ?_ ?_ ?_ ?_ (.tmp 8) (.tmp 196) ?_ ?_ ?_ ?_ ?_); exact K2.out.1.bx 4 _ _ _ rfl; exact hZ'.out; exact hS2.out; exact K2.out.2.lies.size.2.1; rfl; rfl; rfl; rfl; intro yE HE; have KE : Hid (Fm w [(w.heap.size, C2, 27), (w.heap.size + 1, OC, 60), (w.heap.size + 2, D, 30), (w.heap.size + 3, (dCs d), 38), (w.heap.size + 4, C2, 27)] yE ∧ GO B yE C2 { g with pc := L, st := g.st.take m }) := ⟨K2.out.1.put 4 _ _ _ _ rfl HE.out, (K2.out.2).offT (K2.out.1.bx 4 _ _ _ rfl) (by decide) (by decide) HE.out.2.2⟩; clear HE)
    | ((with_reducible refine gen_world (y1.setCell ⟨w.heap.size, 18, none⟩ (.slice (some ⟨gS, 0, none⟩) m cS)) (fun yy => Fm w [(w.heap.size, C2, 27), (w.heap.size + 1, OC, 60), (w.heap.size + 2, D, 30), (w.heap.size + 3, (dCs d), 38), (w.heap.size + 4, ZC, 27)] yy ∧ GO B yy C2 { g with pc := L, st := g.st.take m }) ?_ ?_); (exact ⟨K1.out.1.setCell 0 _ _ _ _ rfl 18 _ hC2.out.symm, (by have h := ((K1.out.2).offT (K1.out.1.bx 0 _ _ _ rfl) (by decide) (by decide) (fun q' hq' => heap_setCell_other y1 ⟨w.heap.size, 18, none⟩ q' (.slice (some ⟨gS, 0, none⟩) m cS) hq')); have h' := h.rtake ho2.out m hm'.out; rw [hC2.out]; exact h')⟩); intro y2 K2; clear z2)
    | ((with_reducible refine gen_world (y0.setCell ⟨w.heap.size, 17, none⟩ (.int .u16 (L : Int))) (fun yy => Fm w [(w.heap.size, C1, 27), (w.heap.size + 1, OC, 60), (w.heap.size + 2, D, 30), (w.heap.size + 3, (dCs d), 38), (w.heap.size + 4, ZC, 27)] yy ∧ GO B yy C1 { g with pc := L }) ?_ ?_); (exact ⟨K0.out.1.setCell 0 _ _ _ _ rfl 17 _ hC1.out.symm, (by have h := ((K0.out.2).offT (K0.out.1.bx 0 _ _ _ rfl) (by decide) (by decide) (fun q' hq' => heap_setCell_other y0 ⟨w.heap.size, 17, none⟩ q' (.int .u16 (L : Int)) hq')); have h' := h.rpc L hL'.out; rw [hC1.out]; exact h')⟩); intro y1 K1; clear z1; have s2 := (K1.out.1.bx 0 _ _ _ rfl).c 18 _ ho2.out; have z2 := (K1.out.1.bx 0 _ _ _ rfl).fz 18)
    | ((with_reducible refine at_slH 24 (.tmp 52) (.tmp 54) (.slice (some ⟨gS, 0, none⟩) N cS) (.int .i64 (m : Int)) (.slice (some ⟨gS, 0, none⟩) m cS) ?_ ?_ ?_ ?_ ?_ ?_); kernel_rfl; rfl; rfl; rfl; exact hsl.out)
    | ((with_reducible refine gen_world (((((w.alloc (.cells C 27)).alloc (.cells OC 60)).alloc (.cells D 30)).alloc (.cells (dCs d) 38)).alloc (.cells z23A 27)) (fun y => Fm w [(w.heap.size, C, 27), (w.heap.size + 1, OC, 60), (w.heap.size + 2, D, 30), (w.heap.size + 3, (dCs d), 38), (w.heap.size + 4, ZC, 27)] y ∧ GO B y C g) ?_ ?_); (rw [hZ.out]; unfold gZ; exact ⟨Fm.five w _ _ _ _ _ _ _ _ _ _, hG.out.below (Fm.five w _ _ _ _ _ _ _ _ _ _).low⟩); intro y0 K0; obtain ⟨v1, v2, e0, e1, e2, e4, e5⟩ := five_cells (K := 3) K0.out.1 fV.out hOC.out; have s1 := (K0.out.1.bx 0 _ _ _ rfl).c 17 _ hG.out.rest.2.1; have z1 := (K0.out.1.bx 0 _ _ _ rfl).fz 17; have c18 := (K0.out.1.bx 0 _ _ _ rfl).c 18 _ fS.out; have cl := (K0.out.1.low.cell (p := ⟨gS, m, none⟩) fL.out.2).trans fL.out.1)
    | ((with_reducible refine at_load rtG w.heap.size C2 ?_ ?_ (.tmp 4) ?_ ?_ ?_ ?_); exact K2.out.1.bx 0 _ _ _ rfl; exact hS2.out; kernel_rfl; rfl; rfl))
  exact ret_two rtG rfl rfl rfl (KE.out.1.bx 4 _ _ _ rfl) hS2.out rfl ⟨C2, rfl, ⟨KE.out.2, BK.ofLow KE.out.1.low hB.out⟩⟩
end Go.Proofs.YteipjkjpeookaaaGreat

namespace Go.Proofs.YteipjkjpeookaaaGreat
open Go Go.RowKit Go.Shelf
set_option linter.unusedVariables false
set_option maxHeartbeats 1000000
set_option maxRecDepth 100000

theorem rdo_clear (w : World) (B : Nat) (C D : Array Value) (g : Gm) (f : Fo) (d : Fd) (hG : Hid (GO B w C g)) (hB : Hid (B ≤ w.heap.size)) (hf : Hid (FL w D f)) (hd : Hid d.Ok) (x y n b a : Nat) (hx : x < 16) (hy : y < 16) (hb : b < 256) (ha : a < 65536) :
    Calls Tryz.prog 31 #[.agg C, .agg #[.int .u8 2, .int .u8 (x : Int), .int .u8 (y : Int), .int .u8 (n : Int), .int .u8 (b : Int), .int .u16 (a : Int)], .agg D, .agg (dCs d)] w (RdE B w (doG g ⟨2, x, y, n, b, a⟩ f d)) := by
  obtain ⟨ZC, p, q, gC, gD, hZ, hZ', hp, hq, lp, lq, fV, ixx, ixy, ixi, iyi, ibi, iai, ipi, iqi⟩ := pre_do w B C D g f x y b a hG hf hx hy hb ha
  obtain ⟨OC, hOC⟩ := hid_ex #[.int .u8 2, .int .u8 (x : Int), .int .u8 (y : Int), .int .u8 (n : Int), .int .u8 (b : Int), .int .u16 (a : Int)]
  rw [← hOC.out]
  obtain ⟨o21, ho21⟩ := some_at gC.out 21 (by decide)
  have f21 : Hid (C[21]? = some o21) := ho21
  clear ho21
  obtain ⟨ZB, hZB⟩ : ∃ z, Hid (z = rowB (List.replicate 256 (0 : UInt8))) := ⟨_, (rfl : rowB (List.replicate 256 (0 : UInt8)) = _)⟩
  have eR : Hid (doG g ⟨2, x, y, n, b, a⟩ f d = ({ g with pg := List.replicate 256 0 }, 1)) := (rfl : _ = _)
  rw [eR.out]
  clear hx hy hb ha hp hq lp lq
  go_enter Tryz.func31, Tryz.ntmps31
  go_wp2_with (first
    | ((with_reducible refine at_st rtG (w.heap.size + 4) ZC C1 ?_ ?_ ?_ ?_ (.tmp 8) (.tmp 196) ?_ ?_ ?_ ?_ ?_); exact K2.out.1.bx 4 _ _ _ rfl; exact hZ'.out; exact hS1.out; exact K2.out.2.lies.size.2.1; rfl; rfl; rfl; rfl; intro yE HE; have KE : Hid (Fm w [(w.heap.size, C1, 27), (w.heap.size + 1, OC, 60), (w.heap.size + 2, D, 30), (w.heap.size + 3, (dCs d), 38), (w.heap.size + 4, C1, 27)] yE ∧ GO B yE C1 { g with pg := List.replicate 256 0 }) := ⟨K2.out.1.put 4 _ _ _ _ rfl HE.out, (K2.out.2).offT (K2.out.1.bx 4 _ _ _ rfl) (by decide) (by decide) HE.out.2.2⟩; clear HE)
    | ((with_reducible refine gen_world (y1.setCell ⟨w.heap.size, 21, none⟩ (.slice (some ⟨y0.heap.size, 0, none⟩) 256 256)) (fun yy => Fm w [(w.heap.size, C1, 27), (w.heap.size + 1, OC, 60), (w.heap.size + 2, D, 30), (w.heap.size + 3, (dCs d), 38), (w.heap.size + 4, ZC, 27)] yy ∧ GO B yy C1 { g with pg := List.replicate 256 0 }) ?_ ?_); (exact ⟨K1.out.1.setCell 0 _ _ _ _ rfl 21 _ hC1.out.symm, (by have h := (K1.out.2.1).offT (K1.out.1.bx 0 _ _ _ rfl) (by decide) (by decide) (fun q' hq' => heap_setCell_other y1 ⟨w.heap.size, 21, none⟩ q' (.slice (some ⟨y0.heap.size, 0, none⟩) 256 256) hq'); have hb1 : Bx (y1.setCell ⟨w.heap.size, 21, none⟩ (.slice (some ⟨y0.heap.size, 0, none⟩) 256 256)) y0.heap.size (rowB (List.replicate 256 (0 : UInt8))) 5 := (heap_setCell_other y1 ⟨w.heap.size, 21, none⟩ y0.heap.size (.slice (some ⟨y0.heap.size, 0, none⟩) 256 256) hne.out).trans K1.out.2.2; have h' := h.rpg (.slice (some ⟨y0.heap.size, 0, none⟩) 256 256) (List.replicate 256 (0 : UInt8)) (by have := own_of_bx (B := B) hb1 hge.out (by rw [List.length_replicate]; decide); rw [List.length_replicate] at this; exact this) (fun q hq vM hvM hq2 => by have h3 := K0.out.2.memlt hvM hq2; have h4 : y0.heap.size = q := (by simpa [Value.ownBlock] using hq); omega); rw [hC1.out]; exact h')⟩); intro y2 K2)
    | ((with_reducible refine gen_world (y0.alloc (.cells ZB 5)) (fun yy => Fm w [(w.heap.size, C, 27), (w.heap.size + 1, OC, 60), (w.heap.size + 2, D, 30), (w.heap.size + 3, (dCs d), 38), (w.heap.size + 4, ZC, 27)] yy ∧ GO B yy C g ∧ Bx yy y0.heap.size (rowB (List.replicate 256 (0 : UInt8))) 5) ?_ ?_); (rw [hZB.out]; exact ⟨K0.out.1.below (below1 y0 _), K0.out.2.below (below1 y0 _), one_bxL y0 _ _⟩); intro y1 K1; have s21 := (K1.out.1.bx 0 _ _ _ rfl).c 21 _ f21.out; have z21 := (K1.out.1.bx 0 _ _ _ rfl).fz 21; have hne : Hid (y0.heap.size ≠ w.heap.size) := Nat.ne_of_gt (heap_lt (K0.out.1.bx 0 _ _ _ rfl)); have hge : Hid (B ≤ y0.heap.size) := Nat.le_trans hB.out K0.out.1.low.size; obtain ⟨C1, hC1⟩ : ∃ z, Hid (z = C.setIfInBounds 21 (.slice (some ⟨y0.heap.size, 0, none⟩) 256 256)) := ⟨_, (rfl : C.setIfInBounds 21 (.slice (some ⟨y0.heap.size, 0, none⟩) 256 256) = _)⟩; have hS1 : Hid (C1.size = 23) := (by show _ = _; rw [hC1.out, Array.size_setIfInBounds]; exact gC.out))
    | ((with_reducible refine at_mkZ 256 ?_ ?_ ?_ ?_); decide; rfl; rfl; (rw [← hZB.out]))
    | ((with_reducible refine gen_world (((((w.alloc (.cells C 27)).alloc (.cells OC 60)).alloc (.cells D 30)).alloc (.cells (dCs d) 38)).alloc (.cells z23A 27)) (fun y => Fm w [(w.heap.size, C, 27), (w.heap.size + 1, OC, 60), (w.heap.size + 2, D, 30), (w.heap.size + 3, (dCs d), 38), (w.heap.size + 4, ZC, 27)] y ∧ GO B y C g) ?_ ?_); (rw [hZ.out]; unfold gZ; exact ⟨Fm.five w _ _ _ _ _ _ _ _ _ _, hG.out.below (Fm.five w _ _ _ _ _ _ _ _ _ _).low⟩); intro y0 K0; obtain ⟨v1, v2, e0, e1, e2, e4, e5⟩ := five_cells (K := 2) K0.out.1 fV.out hOC.out)
    | ((with_reducible refine at_load rtG w.heap.size C1 ?_ ?_ (.tmp 4) ?_ ?_ ?_ ?_); exact K2.out.1.bx 0 _ _ _ rfl; exact hS1.out; kernel_rfl; rfl; rfl))
  exact ret_two rtG rfl rfl rfl (KE.out.1.bx 4 _ _ _ rfl) hS1.out rfl ⟨C1, rfl, ⟨KE.out.2, BK.ofLow KE.out.1.low hB.out⟩⟩
theorem GO.app {B : Nat} {y1 y2 : World} {C : Array Value} {g : Gm} {v v' : Value} (h : GO B y1 C g) (hC : C[18]? = some v) (A : App1L 23 1 cW B v g.st g.pc v' y1 y2) : GO B y2 (C.setIfInBounds 18 v') { g with st := g.st ++ [g.pc] } := by
  obtain ⟨⟨vS, vP, vM, e, h1, h2, h3, h4⟩, ok⟩ := h
  have eS : vS = v := by
    rw [e] at hC
    exact Option.some.inj hC
  subst eS
  refine ⟨⟨v', vP, vM, by rw [e]; rfl, A.own, ?_, ?_, h4⟩, ⟨ok.v, ok.i, ok.pc, fun s hs => ?_⟩⟩
  · exact h2.keepB fun q hq => A.cu.blk q (h2.lt q hq).2 fun j hF => by
      obtain ⟨c1, k1⟩ := h2.ty q hq
      obtain ⟨c2, k2⟩ := h1.ty q hF.1
      exact absurd rfl (Bx.unlike k1 k2 (by decide))
  · exact h3.keepB fun q hq => A.cu.blk q (h3.lt q hq).2 fun j hF => by
      obtain ⟨c1, k1⟩ := h3.ty q hq
      obtain ⟨c2, k2⟩ := h1.ty q hF.1
      exact absurd rfl (Bx.unlike k1 k2 (by decide))
  · simp only [List.mem_append, List.mem_singleton] at hs
    rcases hs with hs | rfl
    · exact ok.st s hs
    · exact ok.pc
theorem app_ty {B : Nat} {y1 : World} {C : Array Value} {g : Gm} {v : Value} (h : GO B y1 C g) (hC : C[18]? = some v) {q : Nat} (hq : v.ownBlock = some q) : ∃ cs t, Bx y1 q cs t ∧ (t = 5 ∨ t = 23) := by
  obtain ⟨⟨vS, vP, vM, e, h1, h2, h3, h4⟩, ok⟩ := h
  have eS : vS = v := by
    rw [e] at hC
    exact Option.some.inj hC
  subst eS
  obtain ⟨c2, k2⟩ := h1.ty q hq
  exact ⟨c2, _, k2, .inr rfl⟩
theorem app_box {B : Nat} {y1 y2 : World} {C cs : Array Value} {g : Gm} {v v' : Value} {b : Nat} {t : TypeId} (h : GO B y1 C g) (hC : C[18]? = some v) (A : App1L 23 1 cW B v g.st g.pc v' y1 y2) (hx : Bx y1 b cs t) (ht : t ≠ 23) : Bx y2 b cs t := by
  obtain ⟨⟨vS, vP, vM, e, h1, h2, h3, h4⟩, ok⟩ := h
  have eS : vS = v := by
    rw [e] at hC
    exact Option.some.inj hC
  subst eS
  refine (A.cu.blk b (heap_lt hx) fun j hF => ?_).trans hx
  obtain ⟨c2, k2⟩ := h1.ty b hF.1
  exact absurd rfl (Bx.unlike hx k2 ht)
end Go.Proofs.YteipjkjpeookaaaGreat
