/- The document's own: others: three digits. -/
import Derived.Test.YteipjkjpeookaaaGreatJ33
namespace Go.Proofs.YteipjkjpeookaaaGreat
open Go Go.RowKit Go.Shelf
set_option linter.unusedVariables false
set_option maxHeartbeats 1000000
set_option maxRecDepth 100000

theorem infoBz : (Tryz.prog.info? 5).map (fun i => (i.zero, i.size)) = some (some (.int .u8 0), 1) := by kernel_rfl
theorem fillB3 (b1 b2 b3 : UInt8) : Instr.fill (fun i => some (i * 1, 1)) ((Array.range (3 * 1)).map ((Value.int IntKind.u8 0).cells[· % (Value.int IntKind.u8 0).cells.size]!)) [(0, byV b1), (1, byV b2), (2, byV b3)] = some (rowB [b1, b2, b3]) := by kernel_rfl
theorem at_bsB3 {ops : Array Oper} {rest : List Oper} {o : Oper} {a : Act} {w : World} {Q : Exit → Act → World → Prop} (b1 b2 b3 : UInt8) (x1 x2 x3 : Operand) (hgd : o.guard = none) (ho : o.op = .buildSlice 25 3 #[(0, x1), (1, x2), (2, x3)]) (h1 : a.eval x1 = byV b1) (h2 : a.eval x2 = byV b2) (h3 : a.eval x3 = byV b3)
    (k : wpList Tryz.prog ops Q rest (a.put o.dst (.slice (some ⟨w.heap.size, 0, none⟩) 3 3)) (w.alloc (.cells (rowB [b1, b2, b3]) 5))) : wpList Tryz.prog ops Q (o :: rest) a w := by
  obtain ⟨i, hi, e⟩ := Option.map_eq_some_iff.1 infoBz
  injection e with e1 e2
  refine wpList_buildSlice hgd 25 5 3 #[(0, x1), (1, x2), (2, x3)] ho (rowB [b1, b2, b3]) i _ Tryz.underlying25 hi e1 (by rw [e2]; decide) (by rw [e2]; decide) ?_ k
  rw [e2]
  have e : (#[(0, x1), (1, x2), (2, x3)].map fun (i, x) => (i, a.eval x)).toList = [(0, byV b1), (1, byV b2), (2, byV b3)] := by simp [h1, h2, h3]
  rw [e]
  exact fillB3 b1 b2 b3
theorem lb_row {w : World} {g : Nat} {l : List UInt8} (h : Bx w g (rowB l) 5) : LB w (some ⟨g, 0, none⟩) l := fun j a hj => by
  have hjl := (List.getElem?_eq_some_iff.1 hj).1
  refine ⟨g, 0, rfl, fun i v hv => ?_⟩
  have hi : i < 1 := (List.getElem?_eq_some_iff.1 hv).1
  obtain rfl : i = 0 := by omega
  refine h.c (0 + j * 1 + 0) v ?_
  rw [show 0 + j * 1 + 0 = j by omega, rowB_get l j hjl]
  have e : l.getD j 0 = a := by rw [List.getD_eq_getElem?_getD, hj]; rfl
  rw [e, ← hv]
  rfl
theorem mem_ty {B : Nat} {y1 : World} {C : Array Value} {g : Gm} {gM n c : Nat} (h : GO B y1 C g) (hC : C[22]? = some (.slice (some ⟨gM, 0, none⟩) n c)) {q : Nat} (hq : q = gM) : ∃ cs t, Bx y1 q cs t ∧ (t = 5 ∨ t = 23) := by
  obtain ⟨⟨vS, vP, vM, e, h1, h2, h3, h4⟩, ok⟩ := h
  have eM : vM = .slice (some ⟨gM, 0, none⟩) n c := by
    rw [e] at hC
    exact Option.some.inj hC
  subst eM
  subst hq
  obtain ⟨c2, k2⟩ := h3.ty q (by simp [Value.ownBlock])
  exact ⟨c2, _, k2, .inl rfl⟩
theorem GO.memAt {B : Nat} {w : World} {C : Array Value} {g : Gm} (h : GO B w C g) (hm : g.me.length = 3232) : ∃ gM cM, C[22]? = some (.slice (some ⟨gM, 0, none⟩) 3232 cM) ∧ B ≤ gM ∧ gM < w.heap.size := by
  obtain ⟨gM, cM, e⟩ := h.memC (by omega)
  rw [hm] at e
  obtain ⟨h1, ⟨cs, h2⟩, _⟩ := h.setMe e 0 (by omega)
  exact ⟨gM, cM, e, h1, heap_lt h2⟩
theorem rothers_three (w : World) (B : Nat) (C D : Array Value) (g : Gm) (f : Fo) (d : Fd) (hG : Hid (GO B w C g)) (hB : Hid (B ≤ w.heap.size)) (hf : Hid (FL w D f)) (hd : Hid d.Ok) (x y n b a : Nat) (hx : x < 16) (hy : y < 16) (hb : b < 256) (ha : a < 65536) (hm3 : g.me.length = 3232) (hft : fitG g.i 3 = true) :
    Calls Tryz.prog 70 #[.agg C, .agg #[.int .u8 29, .int .u8 (x : Int), .int .u8 (y : Int), .int .u8 (n : Int), .int .u8 (b : Int), .int .u16 (a : Int)], .agg D, .agg (dCs d)] w (RdE B w (doG g ⟨29, x, y, n, b, a⟩ f d)) := by
  obtain ⟨ZC, p, q, gC, gD, hZ, hZ', hp, hq, lp, lq, fV, ixx, ixy, ixi, iyi, ibi, iai, ipi, iqi⟩ := pre_do w B C D g f x y b a hG hf hx hy hb ha
  obtain ⟨OC, hOC⟩ := hid_ex #[.int .u8 29, .int .u8 (x : Int), .int .u8 (y : Int), .int .u8 (n : Int), .int .u8 (b : Int), .int .u16 (a : Int)]
  rw [← hOC.out]
  have fI : Hid (C[16]? = some (.int .u16 (g.i : Int))) := hG.out.rest.1
  have iI : (g.i : Int) < 65536 := by have := hG.out.ok.i; omega
  obtain ⟨gM, cM, eM, lM1, lM2⟩ := hG.out.memAt hm3
  have hMM : Hid (C[22]? = some (.slice (some ⟨gM, 0, none⟩) 3232 cM) ∧ B ≤ gM ∧ gM < w.heap.size) := ⟨eM, lM1, lM2⟩
  have hm' : Hid (g.me.length = 3232) := hm3
  obtain ⟨D1, hD1⟩ : ∃ z : UInt8, g.v.getD x 0 / 100 = z := ⟨_, rfl⟩
  obtain ⟨D2, hD2⟩ : ∃ z : UInt8, g.v.getD x 0 / 10 % 10 = z := ⟨_, rfl⟩
  obtain ⟨D3, hD3⟩ : ∃ z : UInt8, g.v.getD x 0 % 10 = z := ⟨_, rfl⟩
  obtain ⟨d1, hd1⟩ : ∃ z, D1.toNat = z := ⟨_, rfl⟩
  obtain ⟨d2, hd2⟩ : ∃ z, D2.toNat = z := ⟨_, rfl⟩
  obtain ⟨d3, hd3⟩ : ∃ z, D3.toNat = z := ⟨_, rfl⟩
  obtain ⟨t1, ht1⟩ : ∃ z, p / 10 = z := ⟨_, rfl⟩
  have r1 : p / 100 = d1 := by rw [← hd1, ← hD1, UInt8.toNat_div, hp]; rfl
  have r2 : t1 % 10 = d2 := by rw [← hd2, ← hD2, UInt8.toNat_mod, UInt8.toNat_div, hp, ← ht1]; rfl
  have r3 : p % 10 = d3 := by rw [← hd3, ← hD3, UInt8.toNat_mod, hp]; rfl
  have w1 : (p : Int) / 100 = (d1 : Int) := by omega
  have w1' : Int.tdiv (p : Int) 100 = (d1 : Int) := by rw [Int.tdiv_eq_ediv_of_nonneg (by omega)]; exact w1
  have w2 : (p : Int) / 10 = (t1 : Int) := by omega
  have w2' : Int.tdiv (p : Int) 10 = (t1 : Int) := by rw [Int.tdiv_eq_ediv_of_nonneg (by omega)]; exact w2
  have w3 : (t1 : Int) % 10 = (d2 : Int) := by omega
  have w3' : Int.tmod (t1 : Int) 10 = (d2 : Int) := by rw [Int.tmod_eq_emod_of_nonneg (by omega)]; exact w3
  have w4 : (p : Int) % 10 = (d3 : Int) := by omega
  have w4' : Int.tmod (p : Int) 10 = (d3 : Int) := by rw [Int.tmod_eq_emod_of_nonneg (by omega)]; exact w4
  have hDD : Hid (byV D1 = .int .u8 (d1 : Int) ∧ byV D2 = .int .u8 (d2 : Int) ∧ byV D3 = .int .u8 (d3 : Int)) := ⟨by rw [← hd1]; rfl, by rw [← hd2]; rfl, by rw [← hd3]; rfl⟩
  obtain ⟨RB, hRB⟩ : ∃ z, Hid (z = rowB [D1, D2, D3]) := ⟨_, (rfl : rowB [D1, D2, D3] = _)⟩
  have hft' : Hid (fitG g.i 3 = true) := hft
  have eR : Hid (doG g ⟨29, x, y, n, b, a⟩ f d = ({ g with me := wr g.me (g.i - 512) [D1, D2, D3] 3 }, 1)) := by
    show (if fitG g.i 3 then (({ g with me := wr g.me (g.i - 512) [g.v.getD x 0 / 100, g.v.getD x 0 / 10 % 10, g.v.getD x 0 % 10] 3 } : Gm), 1) else (g, 7)) = _
    rw [hft'.out, hD1, hD2, hD3]
    rfl
  rw [eR.out]
  have hip : Hid (g.i < 65536) := hG.out.ok.i
  clear hx hy hb ha hp hq lp lq hD1 hD2 hD3 hd1 hd2 hd3 ht1 r1 r2 r3 eM lM1 lM2 hm3 hft
  go_enter Tryz.func70, Tryz.ntmps70
  go_wp2_with (first
    | ((with_reducible refine at_st rtG (w.heap.size + 4) ZC C ?_ ?_ ?_ ?_ (.tmp 8) (.tmp 151) ?_ ?_ ?_ ?_ ?_); exact K5.out.1.2; exact hZ'.out; exact gC.out; exact K5.out.2.1.lies.size.2.1; rfl; rfl; rfl; rfl; intro yE HE; have KE : Hid (Bx yE (w.heap.size + 4) C 27 ∧ GO B yE C { g with me := wr g.me (g.i - 512) [D1, D2, D3] 3 } ∧ BK B w yE) := ⟨HE.out.1, (K5.out.2.1).offT (K5.out.1.2) (by decide) (by decide) HE.out.2.2, K5.out.2.2.tr hB.out (HE.out.2.1 w.heap.size (Nat.le_add_right _ _))⟩; clear HE)
    | ((with_reducible refine at_st rtG w.heap.size C C ?_ ?_ ?_ ?_ (.tmp 4) (.tmp 98) ?_ ?_ ?_ ?_ ?_); exact K4.out.1.1; exact gC.out; exact gC.out; exact K4.out.2.1.lies.size.2.1; rfl; rfl; rfl; rfl; intro y5 H5; have K5 : Hid ((Bx y5 w.heap.size C 27 ∧ Bx y5 (w.heap.size + 4) ZC 27) ∧ GO B y5 C { g with me := wr g.me (g.i - 512) [D1, D2, D3] 3 } ∧ BK B w y5) := ⟨⟨H5.out.1, (H5.out.2.2 (w.heap.size + 4) (Nat.ne_of_gt (Nat.lt_add_of_pos_right (by decide)))).trans K4.out.1.2⟩, (K4.out.2.1).offT (K4.out.1.1) (by decide) (by decide) H5.out.2.2, K4.out.2.2.1.tr hB.out (H5.out.2.1 w.heap.size (Nat.le_refl _))⟩; clear H5)
    | ((with_reducible refine at_st rtG y2.heap.size ZC C ?_ ?_ ?_ ?_ (.tmp 13) (.tmp 93) ?_ ?_ ?_ ?_ ?_); exact K3.out.2.2.2; exact hZ'.out; exact gC.out; exact K3.out.2.1.lies.size.2.1; rfl; rfl; rfl; rfl; intro y4 H4; have ne0 : Hid (w.heap.size ≠ y2.heap.size ∧ w.heap.size + 4 ≠ y2.heap.size ∧ B ≤ y2.heap.size) := ⟨Nat.ne_of_lt (heap_lt K2.out.1.1), Nat.ne_of_lt (heap_lt K2.out.1.2), Nat.le_trans hB.out (Nat.le_of_lt (heap_lt K2.out.1.1))⟩; have K4 : Hid ((Bx y4 w.heap.size C 27 ∧ Bx y4 (w.heap.size + 4) ZC 27) ∧ GO B y4 C { g with me := wr g.me (g.i - 512) [D1, D2, D3] 3 } ∧ BK B w y4 ∧ Bx y4 y2.heap.size C 27) := ⟨⟨(H4.out.2.2 w.heap.size ne0.out.1).trans K3.out.1.1, (H4.out.2.2 (w.heap.size + 4) ne0.out.2.1).trans K3.out.1.2⟩, (K3.out.2.1).offT (K3.out.2.2.2) (by decide) (by decide) H4.out.2.2, K3.out.2.2.1.tr hB.out (H4.out.2.1 w.heap.size (Nat.le_of_lt (heap_lt K2.out.1.1))), H4.out.1⟩; clear H4)
    | ((with_reducible refine gen_world (y2.alloc (.cells z23A 27)) (fun yy => (Bx yy w.heap.size C 27 ∧ Bx yy (w.heap.size + 4) ZC 27) ∧ GO B yy C { g with me := wr g.me (g.i - 512) [D1, D2, D3] 3 } ∧ BK B w yy ∧ Bx yy y2.heap.size ZC 27) ?_ ?_); (rw [hZ.out] at K2 ⊢; unfold gZ at K2 ⊢; exact ⟨⟨((below1 y2 _).block _ (heap_lt K2.out.1.1)).trans K2.out.1.1, ((below1 y2 _).block _ (heap_lt K2.out.1.2)).trans K2.out.1.2⟩, K2.out.2.1.below (below1 y2 _), K2.out.2.2.tr hB.out ((below1 y2 _).mono (Nat.le_of_lt (heap_lt K2.out.1.1))), one_bxL y2 _ _⟩); intro y3 K3)
    | (go_at_call 96; refine (rwrite_any y1 B C g g.i 3 [D1, D2, D3] (some ⟨y0.heap.size, 0, none⟩) 3 gM cM K1.out.2.2.1 (Nat.le_trans hB.out K1.out.2.2.2.2.size) hm' hMM.out.1 rfl (by decide) (by decide) hip.out (fun u hu => lb_row ((hu.blk y0.heap.size (heap_lt K1.out.2.1) (fun j e => by have h1 := hMM.out.2.2; have h2 := hz0.out; omega)).trans K1.out.2.1))).mono ?_; rw [hft'.out]; rintro e y2 ⟨rfl, H⟩; have K2 : Hid ((Bx y2 w.heap.size C 27 ∧ Bx y2 (w.heap.size + 4) ZC 27) ∧ GO B y2 C { g with me := wr g.me (g.i - 512) [D1, D2, D3] 3 } ∧ BK B w y2) := ⟨⟨(H.out.2.blk _ (heap_lt K1.out.1.1) (fun j e => by have h1 := hMM.out.2.2; omega)).trans K1.out.1.1, (H.out.2.blk _ (heap_lt K1.out.1.2) (fun j e => by have h1 := hMM.out.2.2; omega)).trans K1.out.1.2⟩, H.out.1, (BK.ofLow K1.out.2.2.2.2 hB.out).cu H.out.2 (fun q j e => mem_ty K1.out.2.2.1 hMM.out.1 e)⟩; clear H)
    | ((with_reducible refine gen_world (y0.alloc (.cells RB 5)) (fun yy => (Bx yy w.heap.size C 27 ∧ Bx yy (w.heap.size + 4) ZC 27) ∧ Bx yy y0.heap.size (rowB [D1, D2, D3]) 5 ∧ GO B yy C g ∧ True ∧ Below w.heap.size w yy) ?_ ?_); (rw [hRB.out]; exact ⟨⟨((below1 y0 _).block _ (heap_lt (K0.out.1.bx 0 _ _ _ rfl))).trans (K0.out.1.bx 0 _ _ _ rfl), ((below1 y0 _).block _ (heap_lt (K0.out.1.bx 4 _ _ _ rfl))).trans (K0.out.1.bx 4 _ _ _ rfl)⟩, one_bxL y0 _ _, K0.out.2.below (below1 y0 _), trivial, K0.out.1.low.trans ((below1 y0 _).mono K0.out.1.low.size)⟩); intro y1 K1)
    | ((with_reducible refine at_bsB3 D1 D2 D3 (.tmp 85) (.tmp 88) (.tmp 90) ?_ ?_ ?_ ?_ ?_ ?_); rfl; rfl; exact hDD.out.1.symm; exact hDD.out.2.1.symm; exact hDD.out.2.2.symm; rw [← hRB.out])
    | ((with_reducible refine gen_world (((((w.alloc (.cells C 27)).alloc (.cells OC 60)).alloc (.cells D 30)).alloc (.cells (dCs d) 38)).alloc (.cells z23A 27)) (fun y => Fm w [(w.heap.size, C, 27), (w.heap.size + 1, OC, 60), (w.heap.size + 2, D, 30), (w.heap.size + 3, (dCs d), 38), (w.heap.size + 4, ZC, 27)] y ∧ GO B y C g) ?_ ?_); (rw [hZ.out]; unfold gZ; exact ⟨Fm.five w _ _ _ _ _ _ _ _ _ _, hG.out.below (Fm.five w _ _ _ _ _ _ _ _ _ _).low⟩); intro y0 K0; obtain ⟨v1, v2, e0, e1, e2, e4, e5⟩ := five_cells (K := 29) K0.out.1 fV.out hOC.out; have e16 := (K0.out.1.bx 0 _ _ _ rfl).c 16 _ fI.out; have hz0 : Hid (w.heap.size ≤ y0.heap.size) := K0.out.1.low.size)
    | ((with_reducible refine at_load rtG w.heap.size C ?_ ?_ (.tmp 4) ?_ ?_ ?_ ?_); (first | exact K5.out.1.1 | exact K4.out.1.1 | exact K0.out.1.bx 0 _ _ _ rfl); exact gC.out; kernel_rfl; rfl; rfl)
    | ((with_reducible refine at_load rtG y2.heap.size C ?_ ?_ (.tmp 13) ?_ ?_ ?_ ?_); exact K4.out.2.2.2; exact gC.out; kernel_rfl; rfl; rfl))
  exact ret_two rtG rfl rfl rfl KE.out.1 gC.out rfl ⟨C, rfl, ⟨KE.out.2.1, KE.out.2.2⟩⟩
theorem rothers_threeno (w : World) (B : Nat) (C D : Array Value) (g : Gm) (f : Fo) (d : Fd) (hG : Hid (GO B w C g)) (hB : Hid (B ≤ w.heap.size)) (hf : Hid (FL w D f)) (hd : Hid d.Ok) (x y n b a : Nat) (hx : x < 16) (hy : y < 16) (hb : b < 256) (ha : a < 65536) (hm3 : g.me.length = 3232) (hft : fitG g.i 3 = false) :
    Calls Tryz.prog 70 #[.agg C, .agg #[.int .u8 29, .int .u8 (x : Int), .int .u8 (y : Int), .int .u8 (n : Int), .int .u8 (b : Int), .int .u16 (a : Int)], .agg D, .agg (dCs d)] w (RdE B w (doG g ⟨29, x, y, n, b, a⟩ f d)) := by
  obtain ⟨ZC, p, q, gC, gD, hZ, hZ', hp, hq, lp, lq, fV, ixx, ixy, ixi, iyi, ibi, iai, ipi, iqi⟩ := pre_do w B C D g f x y b a hG hf hx hy hb ha
  obtain ⟨OC, hOC⟩ := hid_ex #[.int .u8 29, .int .u8 (x : Int), .int .u8 (y : Int), .int .u8 (n : Int), .int .u8 (b : Int), .int .u16 (a : Int)]
  rw [← hOC.out]
  have fI : Hid (C[16]? = some (.int .u16 (g.i : Int))) := hG.out.rest.1
  have iI : (g.i : Int) < 65536 := by have := hG.out.ok.i; omega
  obtain ⟨gM, cM, eM, lM1, lM2⟩ := hG.out.memAt hm3
  have hMM : Hid (C[22]? = some (.slice (some ⟨gM, 0, none⟩) 3232 cM) ∧ B ≤ gM ∧ gM < w.heap.size) := ⟨eM, lM1, lM2⟩
  have hm' : Hid (g.me.length = 3232) := hm3
  obtain ⟨D1, hD1⟩ : ∃ z : UInt8, g.v.getD x 0 / 100 = z := ⟨_, rfl⟩
  obtain ⟨D2, hD2⟩ : ∃ z : UInt8, g.v.getD x 0 / 10 % 10 = z := ⟨_, rfl⟩
  obtain ⟨D3, hD3⟩ : ∃ z : UInt8, g.v.getD x 0 % 10 = z := ⟨_, rfl⟩
  obtain ⟨d1, hd1⟩ : ∃ z, D1.toNat = z := ⟨_, rfl⟩
  obtain ⟨d2, hd2⟩ : ∃ z, D2.toNat = z := ⟨_, rfl⟩
  obtain ⟨d3, hd3⟩ : ∃ z, D3.toNat = z := ⟨_, rfl⟩
  obtain ⟨t1, ht1⟩ : ∃ z, p / 10 = z := ⟨_, rfl⟩
  have r1 : p / 100 = d1 := by rw [← hd1, ← hD1, UInt8.toNat_div, hp]; rfl
  have r2 : t1 % 10 = d2 := by rw [← hd2, ← hD2, UInt8.toNat_mod, UInt8.toNat_div, hp, ← ht1]; rfl
  have r3 : p % 10 = d3 := by rw [← hd3, ← hD3, UInt8.toNat_mod, hp]; rfl
  have w1 : (p : Int) / 100 = (d1 : Int) := by omega
  have w1' : Int.tdiv (p : Int) 100 = (d1 : Int) := by rw [Int.tdiv_eq_ediv_of_nonneg (by omega)]; exact w1
  have w2 : (p : Int) / 10 = (t1 : Int) := by omega
  have w2' : Int.tdiv (p : Int) 10 = (t1 : Int) := by rw [Int.tdiv_eq_ediv_of_nonneg (by omega)]; exact w2
  have w3 : (t1 : Int) % 10 = (d2 : Int) := by omega
  have w3' : Int.tmod (t1 : Int) 10 = (d2 : Int) := by rw [Int.tmod_eq_emod_of_nonneg (by omega)]; exact w3
  have w4 : (p : Int) % 10 = (d3 : Int) := by omega
  have w4' : Int.tmod (p : Int) 10 = (d3 : Int) := by rw [Int.tmod_eq_emod_of_nonneg (by omega)]; exact w4
  have hDD : Hid (byV D1 = .int .u8 (d1 : Int) ∧ byV D2 = .int .u8 (d2 : Int) ∧ byV D3 = .int .u8 (d3 : Int)) := ⟨by rw [← hd1]; rfl, by rw [← hd2]; rfl, by rw [← hd3]; rfl⟩
  obtain ⟨RB, hRB⟩ : ∃ z, Hid (z = rowB [D1, D2, D3]) := ⟨_, (rfl : rowB [D1, D2, D3] = _)⟩
  have hft' : Hid (fitG g.i 3 = false) := hft
  have eR : Hid (doG g ⟨29, x, y, n, b, a⟩ f d = (g, 7)) := by
    show (if fitG g.i 3 then (({ g with me := wr g.me (g.i - 512) [g.v.getD x 0 / 100, g.v.getD x 0 / 10 % 10, g.v.getD x 0 % 10] 3 } : Gm), 1) else (g, 7)) = _
    rw [hft'.out, hD1, hD2, hD3]
    rfl
  rw [eR.out]
  have hip : Hid (g.i < 65536) := hG.out.ok.i
  clear hx hy hb ha hp hq lp lq hD1 hD2 hD3 hd1 hd2 hd3 ht1 r1 r2 r3 eM lM1 lM2 hm3 hft
  go_enter Tryz.func70, Tryz.ntmps70
  go_wp2_with (first
    | ((with_reducible refine at_st rtG (w.heap.size + 4) ZC C ?_ ?_ ?_ ?_ (.tmp 8) (.tmp 97) ?_ ?_ ?_ ?_ ?_); exact K4.out.1.2; exact hZ'.out; exact gC.out; exact K4.out.2.1.lies.size.2.1; rfl; rfl; rfl; rfl; intro yE HE; have KE : Hid (Bx yE (w.heap.size + 4) C 27 ∧ GO B yE C g ∧ BK B w yE) := ⟨HE.out.1, (K4.out.2.1).offT (K4.out.1.2) (by decide) (by decide) HE.out.2.2, K4.out.2.2.1.tr hB.out (HE.out.2.1 w.heap.size (Nat.le_add_right _ _))⟩; clear HE)
    | ((with_reducible refine at_st rtG y2.heap.size ZC C ?_ ?_ ?_ ?_ (.tmp 13) (.tmp 93) ?_ ?_ ?_ ?_ ?_); exact K3.out.2.2.2; exact hZ'.out; exact gC.out; exact K3.out.2.1.lies.size.2.1; rfl; rfl; rfl; rfl; intro y4 H4; have ne0 : Hid (w.heap.size ≠ y2.heap.size ∧ w.heap.size + 4 ≠ y2.heap.size ∧ B ≤ y2.heap.size) := ⟨Nat.ne_of_lt (heap_lt K2.out.1.1), Nat.ne_of_lt (heap_lt K2.out.1.2), Nat.le_trans hB.out (Nat.le_of_lt (heap_lt K2.out.1.1))⟩; have K4 : Hid ((Bx y4 w.heap.size C 27 ∧ Bx y4 (w.heap.size + 4) ZC 27) ∧ GO B y4 C g ∧ BK B w y4 ∧ Bx y4 y2.heap.size C 27) := ⟨⟨(H4.out.2.2 w.heap.size ne0.out.1).trans K3.out.1.1, (H4.out.2.2 (w.heap.size + 4) ne0.out.2.1).trans K3.out.1.2⟩, (K3.out.2.1).offT (K3.out.2.2.2) (by decide) (by decide) H4.out.2.2, K3.out.2.2.1.tr hB.out (H4.out.2.1 w.heap.size (Nat.le_of_lt (heap_lt K2.out.1.1))), H4.out.1⟩; clear H4)
    | ((with_reducible refine gen_world (y2.alloc (.cells z23A 27)) (fun yy => (Bx yy w.heap.size C 27 ∧ Bx yy (w.heap.size + 4) ZC 27) ∧ GO B yy C g ∧ BK B w yy ∧ Bx yy y2.heap.size ZC 27) ?_ ?_); (rw [hZ.out] at K2 ⊢; unfold gZ at K2 ⊢; exact ⟨⟨((below1 y2 _).block _ (heap_lt K2.out.1.1)).trans K2.out.1.1, ((below1 y2 _).block _ (heap_lt K2.out.1.2)).trans K2.out.1.2⟩, K2.out.2.1.below (below1 y2 _), K2.out.2.2.tr hB.out ((below1 y2 _).mono (Nat.le_of_lt (heap_lt K2.out.1.1))), one_bxL y2 _ _⟩); intro y3 K3)
    | (go_at_call 96; refine (rwrite_any y1 B C g g.i 3 [D1, D2, D3] (some ⟨y0.heap.size, 0, none⟩) 3 gM cM K1.out.2.2.1 (Nat.le_trans hB.out K1.out.2.2.2.2.size) hm' hMM.out.1 rfl (by decide) (by decide) hip.out (fun u hu => lb_row ((hu.blk y0.heap.size (heap_lt K1.out.2.1) (fun j e => by have h1 := hMM.out.2.2; have h2 := hz0.out; omega)).trans K1.out.2.1))).mono ?_; rw [hft'.out]; rintro e y2 ⟨rfl, H⟩; have K2 : Hid ((Bx y2 w.heap.size C 27 ∧ Bx y2 (w.heap.size + 4) ZC 27) ∧ GO B y2 C g ∧ BK B w y2) := ⟨⟨(H.out.2.blk _ (heap_lt K1.out.1.1) (fun j e => by have h1 := hMM.out.2.2; omega)).trans K1.out.1.1, (H.out.2.blk _ (heap_lt K1.out.1.2) (fun j e => by have h1 := hMM.out.2.2; omega)).trans K1.out.1.2⟩, H.out.1, (BK.ofLow K1.out.2.2.2.2 hB.out).cu H.out.2 (fun q j e => mem_ty K1.out.2.2.1 hMM.out.1 e)⟩; clear H)
    | ((with_reducible refine gen_world (y0.alloc (.cells RB 5)) (fun yy => (Bx yy w.heap.size C 27 ∧ Bx yy (w.heap.size + 4) ZC 27) ∧ Bx yy y0.heap.size (rowB [D1, D2, D3]) 5 ∧ GO B yy C g ∧ True ∧ Below w.heap.size w yy) ?_ ?_); (rw [hRB.out]; exact ⟨⟨((below1 y0 _).block _ (heap_lt (K0.out.1.bx 0 _ _ _ rfl))).trans (K0.out.1.bx 0 _ _ _ rfl), ((below1 y0 _).block _ (heap_lt (K0.out.1.bx 4 _ _ _ rfl))).trans (K0.out.1.bx 4 _ _ _ rfl)⟩, one_bxL y0 _ _, K0.out.2.below (below1 y0 _), trivial, K0.out.1.low.trans ((below1 y0 _).mono K0.out.1.low.size)⟩); intro y1 K1)
    | ((with_reducible refine at_bsB3 D1 D2 D3 (.tmp 85) (.tmp 88) (.tmp 90) ?_ ?_ ?_ ?_ ?_ ?_); rfl; rfl; exact hDD.out.1.symm; exact hDD.out.2.1.symm; exact hDD.out.2.2.symm; rw [← hRB.out])
    | ((with_reducible refine gen_world (((((w.alloc (.cells C 27)).alloc (.cells OC 60)).alloc (.cells D 30)).alloc (.cells (dCs d) 38)).alloc (.cells z23A 27)) (fun y => Fm w [(w.heap.size, C, 27), (w.heap.size + 1, OC, 60), (w.heap.size + 2, D, 30), (w.heap.size + 3, (dCs d), 38), (w.heap.size + 4, ZC, 27)] y ∧ GO B y C g) ?_ ?_); (rw [hZ.out]; unfold gZ; exact ⟨Fm.five w _ _ _ _ _ _ _ _ _ _, hG.out.below (Fm.five w _ _ _ _ _ _ _ _ _ _).low⟩); intro y0 K0; obtain ⟨v1, v2, e0, e1, e2, e4, e5⟩ := five_cells (K := 29) K0.out.1 fV.out hOC.out; have e16 := (K0.out.1.bx 0 _ _ _ rfl).c 16 _ fI.out; have hz0 : Hid (w.heap.size ≤ y0.heap.size) := K0.out.1.low.size)
    | ((with_reducible refine at_load rtG w.heap.size C ?_ ?_ (.tmp 4) ?_ ?_ ?_ ?_); (first | exact K4.out.1.1 | exact K0.out.1.bx 0 _ _ _ rfl); exact gC.out; kernel_rfl; rfl; rfl))
  exact ret_two rtG rfl rfl rfl KE.out.1 gC.out rfl ⟨C, rfl, ⟨KE.out.2.1, KE.out.2.2⟩⟩
end Go.Proofs.YteipjkjpeookaaaGreat
