/- The document's own: draw. The document's own: do: what others answers. The document's own: do: draw. -/
import Derived.Test.YteipjkjpeookaaaGreatR14
import Derived.Test.YteipjkjpeookaaaGreatE3
import Derived.Test.YteipjkjpeookaaaGreatJ28
namespace Go.Proofs.YteipjkjpeookaaaGreat
open Go Go.RowKit Go.Shelf
set_option linter.unusedVariables false
set_option maxHeartbeats 1000000
set_option maxRecDepth 100000

theorem Fm.four' (w : World) (c1 c2 c3 c4 : Array Value) (t1 t2 t3 t4 : TypeId) : Fm w [(w.heap.size, c1, t1), (w.heap.size + 1, c2, t2), (w.heap.size + 2, c3, t3), (w.heap.size + 3, c4, t4)] ((((w.alloc (.cells c1 t1)).alloc (.cells c2 t2)).alloc (.cells c3 t3)).alloc (.cells c4 t4)) := by
  have h := ((((Fm.nil w).new c1 t1).new c2 t2).new c3 t3).new c4 t4
  simpa using h
theorem GO.pageAt {B : Nat} {w : World} {C : Array Value} {g : Gm} (h : GO B w C g) : ∃ sp cap, C[21]? = some (.slice sp g.pg.length cap) ∧ LB w sp g.pg := by
  obtain ⟨⟨vS, vP, vM, rfl, h1, h2, h3, h4⟩, ok⟩ := h
  obtain ⟨sp, cap, e, hl, _⟩ := h2.open kByte.len
  exact ⟨sp, cap, by rw [← e]; rfl, hl⟩
theorem GO.memLt {B : Nat} {w : World} {C : Array Value} {g : Gm} (h : GO B w C g) {vM : Value} (hM : C[22]? = some vM) (q : Nat) (hq : vM.ownBlock = some q) : q < w.heap.size := by
  obtain ⟨⟨vS, vP, vM', rfl, h1, h2, h3, h4⟩, ok⟩ := h
  obtain rfl : vM' = vM := Option.some.inj hM
  exact (h3.lt q hq).2
theorem rpg_set {B : Nat} {y1 y2 : World} {C C1 : Array Value} {g : Gm} {PG : List UInt8} {b LN capD : Nat} {spD : Option Addr} (hC1 : C1 = C.setIfInBounds 21 (.slice spD LN capD)) (h2 : GO B y2 C g) (h1 : GO B y1 C g) (ho : OwnL 5 1 cB y1.heap.size y2 (.slice spD LN capD) PG) (hb : Bx y2 b C 27) (hB : B ≤ y1.heap.size) (hbl : b < y1.heap.size) : GO B (y2.setCell ⟨b, 21, none⟩ (.slice spD LN capD)) C1 { g with pg := PG } := by
  have h := h2.offT hb (by decide) (by decide) (fun q' hq' => heap_setCell_other y2 ⟨b, 21, none⟩ q' (.slice spD LN capD) hq')
  rw [hC1]
  refine h.rpg _ PG ((ho.weak hB).keepB fun gq e => heap_setCell_other y2 ⟨b, 21, none⟩ gq _ ?_) fun gq e vM hM e2 => ?_
  · have := (ho.lt gq e).1
    show gq ≠ b
    omega
  · have k1 := h1.memLt hM gq e2
    have k2 := (ho.lt gq e).1
    omega
theorem rdraw_some (w : World) (B : Nat) (C D : Array Value) (g : Gm) (f : Fo) (d : Fd) (hG : Hid (GO B w C g)) (hB : Hid (B ≤ w.heap.size)) (hf : Hid (FL w D f)) (x y n b a p q : Nat) (hn : n < 16) (hm3 : g.me.length = 3232) (hpg : g.pg.length = 256) (hfb : f.by_.length ≤ 4000000000) (hp : (g.v.getD x 0).toNat = p) (hq : (g.v.getD y 0).toNat = q) (OC : Array Value) (hOC : Hid (OC = #[.int .u8 20, .int .u8 (x : Int), .int .u8 (y : Int), .int .u8 (n : Int), .int .u8 (b : Int), .int .u16 (a : Int)])) (l : List UInt8) (hrd : readG g f g.i n = some l) :
    Calls Tryz.prog 69 #[.agg C, .agg OC, .agg D, .int .u8 (p : Int), .int .u8 (q : Int)] w (RdE B w (doG g ⟨20, x, y, n, b, a⟩ f d)) := by
  have gC : Hid (C.size = 23) := hG.out.lies.size.1
  have gD : Hid (D.size = 18) := hf.out.size
  obtain ⟨ZC, hZ⟩ : ∃ x : Array Value, Hid (x = gZ) := ⟨_, (rfl : gZ = gZ)⟩
  have hZ' : Hid (ZC.size = 23) := by show _ = _; rw [hZ.out]; rfl
  have lp : p < 256 := by rw [← hp]; exact UInt8.toNat_lt _
  have lq : q < 256 := by rw [← hq]; exact UInt8.toNat_lt _
  have ipi : (p : Int) < 256 := by omega
  have iqi : (q : Int) < 256 := by omega
  have ini : (n : Int) < 16 := by omega
  have fI : Hid (C[16]? = some (.int .u16 (g.i : Int))) := hG.out.rest.1
  have iI : (g.i : Int) < 65536 := by have := hG.out.ok.i; omega
  have hip : Hid (g.i < 65536) := hG.out.ok.i
  have hm' : Hid (g.me.length = 3232) := hm3
  have hpg' : Hid (g.pg.length = 256) := hpg
  have hfb' : Hid (f.by_.length ≤ 4000000000) := hfb
  have hn' : Hid (n < 16) := hn
  have hrd' : Hid (readG g f g.i n = some l) := hrd
  have hll : Hid (l.length = n) := read_length hrd
  obtain ⟨spP, capP, eP, lP⟩ := hG.out.pageAt
  rw [hpg] at eP
  have fP : Hid (C[21]? = some (.slice spP 256 capP)) := eP
  obtain ⟨X, hX⟩ : ∃ z : UInt8, g.v.getD x 0 % 64 = z := ⟨_, rfl⟩
  obtain ⟨Y, hY⟩ : ∃ z : UInt8, g.v.getD y 0 % 32 = z := ⟨_, rfl⟩
  have nX : X.toNat = p % 64 := by rw [← hX, UInt8.toNat_mod, hp]; rfl
  have nY : Y.toNat = q % 32 := by rw [← hY, UInt8.toNat_mod, hq]; rfl
  obtain ⟨x6, hx6⟩ : ∃ z, X.toNat = z := ⟨_, rfl⟩
  obtain ⟨y6, hy6⟩ : ∃ z, Y.toNat = z := ⟨_, rfl⟩
  have w1 : (p : Int) % 64 = (x6 : Int) := by omega
  have w1' : Int.tmod (p : Int) 64 = (x6 : Int) := by rw [Int.tmod_eq_emod_of_nonneg (by omega)]; exact w1
  have w2 : (q : Int) % 32 = (y6 : Int) := by omega
  have w2' : Int.tmod (q : Int) 32 = (y6 : Int) := by rw [Int.tmod_eq_emod_of_nonneg (by omega)]; exact w2
  obtain ⟨PG, hPG⟩ : ∃ z, (drawS (p % 64) (q % 32) l g.pg (8 * l.length)).1 = z := ⟨_, rfl⟩
  obtain ⟨GN, hGN⟩ : ∃ z, (drawS (p % 64) (q % 32) l g.pg (8 * l.length)).2 = z := ⟨_, rfl⟩
  have hdA : drawA g.pg X.toNat Y.toNat l = (PG, GN, 0) := by
    unfold drawA
    rw [if_pos ⟨by omega, by have := hll.out; omega⟩, nX, nY, hPG, hGN]
  have hDr : Hid (∀ u sp cap spR capR, LB u sp g.pg → LB u spR l → Calls Tryz.prog 95 #[.slice sp 256 cap, .int .u8 (x6 : Int), .int .u8 (y6 : Int), .slice spR n capR] u fun e w' => ∃ v, e = .returned (.tuple #[v, .bool GN, .int .i64 0]) ∧ Hid (KL 5 1 cB u v PG w')) := fun u sp cap spR capR k1 k2 => by
    have h := rdraw_any u sp spR cap capR g.pg l X Y k1 k2
    rw [hdA, hpg'.out, hll.out, hx6, hy6] at h
    exact h
  obtain ⟨OV, hOV0⟩ : ∃ z, (oneG GN).toNat = z := ⟨_, rfl⟩
  have hOV : Hid (byV (oneG GN) = .int .u8 (OV : Int)) := by show byV _ = _; rw [← hOV0]; rfl
  have hOVn : Hid ((oneG GN).toNat = OV) := hOV0
  have ix15 := fun v => idxV w.heap.size .i64 15 v (by decide)
  rw [show ((15 : Nat) : Int) = 15 from rfl] at ix15
  have eR : Hid (doG g ⟨20, x, y, n, b, a⟩ f d = (setG { g with pg := PG } 15 (oneG GN), 1)) := by
    show (match readG g f g.i n with | none => (g, 7) | some l => (setG { g with pg := (drawS ((g.v.getD x 0).toNat % 64) ((g.v.getD y 0).toNat % 32) l g.pg (8 * l.length)).1 } 15 (oneG (drawS ((g.v.getD x 0).toNat % 64) ((g.v.getD y 0).toNat % 32) l g.pg (8 * l.length)).2), 1)) = _
    rw [hrd'.out]
    dsimp only; rw [hp, hq, hPG, hGN]
  rw [eR.out]
  clear hp hq lp lq hm3 hrd hfb hn hpg eP lP hX hY nX nY hx6 hy6 hPG hGN hdA hOV0
  go_enter Tryz.func69, Tryz.ntmps69
  go_wp2_with (first
    | ((with_reducible refine at_st rtG (w.heap.size + 3) ZC C2 ?_ ?_ ?_ ?_ (.tmp 10) (.tmp 50) ?_ ?_ ?_ ?_ ?_); exact K4.out.1.bx 3 _ _ _ rfl; exact hZ'.out; exact hS2.out; exact K4.out.2.lies.size.2.1; rfl; rfl; rfl; rfl; intro yE HE; have KE : Hid (Fm w [(w.heap.size, C2, 27), (w.heap.size + 1, OC, 60), (w.heap.size + 2, D, 30), (w.heap.size + 3, C2, 27)] yE ∧ GO B yE C2 (setG { g with pg := PG } 15 (oneG GN))) := ⟨K4.out.1.put 3 _ _ _ _ rfl HE.out, (K4.out.2).offT (K4.out.1.bx 3 _ _ _ rfl) (by decide) (by decide) HE.out.2.2⟩; clear HE)
    | ((with_reducible refine gen_world (y3.setCell ⟨w.heap.size, 15, none⟩ (.int .u8 (OV : Int))) (fun yy => Fm w [(w.heap.size, C2, 27), (w.heap.size + 1, OC, 60), (w.heap.size + 2, D, 30), (w.heap.size + 3, ZC, 27)] yy ∧ GO B yy C2 (setG { g with pg := PG } 15 (oneG GN))) ?_ ?_); (exact ⟨K3.out.1.setCell 0 _ _ _ _ rfl 15 _ hC2.out.symm, (by have h := (K3.out.2).offT (K3.out.1.bx 0 _ _ _ rfl) (by decide) (by decide) (fun q' hq' => heap_setCell_other y3 ⟨w.heap.size, 15, none⟩ q' (.int .u8 (OV : Int)) hq'); have h' := h.rv 15 (by decide) (oneG GN); rw [hOVn.out] at h'; rw [hC2.out]; exact h')⟩); intro y4 K4; clear z15)
    | (go_at_call 93; refine (one_any y3 GN).mono ?_; rintro e yp ⟨rfl, ep⟩; replace ep := ep.symm; subst ep; rw [hOV.out])
    | ((with_reducible refine gen_world (y2.setCell ⟨w.heap.size, 21, none⟩ (.slice spD LN capD)) (fun yy => Fm w [(w.heap.size, C1, 27), (w.heap.size + 1, OC, 60), (w.heap.size + 2, D, 30), (w.heap.size + 3, ZC, 27)] yy ∧ GO B yy C1 { g with pg := PG }) ?_ ?_); (exact ⟨K2.out.1.setCell 0 _ _ _ _ rfl 21 _ hC1.out.symm, rpg_set hC1.out K2.out.2.1 K1.out.2.1 K2.out.2.2 (K2.out.1.bx 0 _ _ _ rfl) (Nat.le_trans hB.out K1.out.1.low.size) (heap_lt (K1.out.1.bx 0 _ _ _ rfl))⟩); intro y3 K3; clear z21; have s15 := (K3.out.1.bx 0 _ _ _ rfl).c 15 _ (K3.out.2.vR 15 (by decide)); have z15 := (K3.out.1.bx 0 _ _ _ rfl).fz 15; obtain ⟨C2, hC2⟩ : ∃ z, Hid (z = C1.setIfInBounds 15 (.int .u8 (OV : Int))) := ⟨_, (rfl : C1.setIfInBounds 15 (.int .u8 (OV : Int)) = _)⟩; have hS2 : Hid (C2.size = 23) := (by show _ = _; rw [hC2.out, Array.size_setIfInBounds]; exact hS1.out))
    | (go_at_call 95; have lPG := (K1.out.2.1.pageAt); obtain ⟨sp', cap', eP', lP'⟩ := lPG; rw [hpg'.out, fP.out] at eP'; injection eP' with eP'; injection eP' with eA eB eC; subst eA; refine (hDr.out y1 spP capP spR capR lP' K1.out.2.2).mono ?_; rintro e y2 ⟨vD, rfl, H⟩; obtain ⟨spD, capD, hvD, _⟩ := H.out.own.open kByte.len; generalize PG.length = LN at hvD; subst hvD; have K2 : Hid (Fm w [(w.heap.size, C, 27), (w.heap.size + 1, OC, 60), (w.heap.size + 2, D, 30), (w.heap.size + 3, ZC, 27)] y2 ∧ GO B y2 C g ∧ OwnL 5 1 cB y1.heap.size y2 (.slice spD LN capD) PG) := ⟨K1.out.1.below H.out.low, K1.out.2.1.below H.out.low, H.out.own⟩; clear H lP'; have s21 := (K2.out.1.bx 0 _ _ _ rfl).c 21 _ fP.out; have z21 := (K2.out.1.bx 0 _ _ _ rfl).fz 21; obtain ⟨C1, hC1⟩ : ∃ z, Hid (z = C.setIfInBounds 21 (.slice spD LN capD)) := ⟨_, (rfl : C.setIfInBounds 21 (.slice spD LN capD) = _)⟩; have hS1 : Hid (C1.size = 23) := (by show _ = _; rw [hC1.out, Array.size_setIfInBounds]; exact gC.out))
    | (go_at_call 94; refine (rread_any y0 C D g f g.i n K0.out.2.lies (hf.out.below K0.out.1.low) hm' hfb' hip.out (Nat.le_trans (Nat.le_of_lt hn'.out) (by decide))).mono ?_; rw [hrd'.out]; rintro e y1 ⟨vR, rfl, H⟩; obtain ⟨spR, capR, hvR, _⟩ := H.own.open kByte.len; subst hvR; rw [hll.out] at H ⊢; have K1 : Hid (Fm w [(w.heap.size, C, 27), (w.heap.size + 1, OC, 60), (w.heap.size + 2, D, 30), (w.heap.size + 3, ZC, 27)] y1 ∧ GO B y1 C g ∧ LB y1 spR l) := ⟨K0.out.1.below H.low, K0.out.2.below H.low, (own_lb H.own).1⟩; clear H; have e21 := (K1.out.1.bx 0 _ _ _ rfl).c 21 _ fP.out)
    | ((with_reducible refine gen_world ((((w.alloc (.cells C 27)).alloc (.cells OC 60)).alloc (.cells D 30)).alloc (.cells z23A 27)) (fun y => Fm w [(w.heap.size, C, 27), (w.heap.size + 1, OC, 60), (w.heap.size + 2, D, 30), (w.heap.size + 3, ZC, 27)] y ∧ GO B y C g) ?_ ?_); (rw [hZ.out]; unfold gZ; exact ⟨Fm.four' w _ _ _ _ _ _ _ _, hG.out.below (Fm.four' w _ _ _ _ _ _ _ _).low⟩); intro y0 K0; have e16 := (K0.out.1.bx 0 _ _ _ rfl).c 16 _ fI.out; have e3 := (K0.out.1.bx 1 _ _ _ rfl).c 3 (.int .u8 (n : Int)) (by rw [hOC.out]; rfl))
    | ((with_reducible refine at_load rtG w.heap.size C2 ?_ ?_ (.tmp 5) ?_ ?_ ?_ ?_); exact K4.out.1.bx 0 _ _ _ rfl; exact hS2.out; kernel_rfl; rfl; rfl)
    | ((with_reducible refine at_load rtG w.heap.size C ?_ ?_ (.tmp 5) ?_ ?_ ?_ ?_); exact K0.out.1.bx 0 _ _ _ rfl; exact gC.out; kernel_rfl; rfl; rfl)
    | ((with_reducible refine at_load rtFn (w.heap.size + 2) D ?_ ?_ (.tmp 7) ?_ ?_ ?_ ?_); exact K0.out.1.bx 2 _ _ _ rfl; exact gD.out; kernel_rfl; rfl; rfl))
  exact ret_two rtG rfl rfl rfl (KE.out.1.bx 3 _ _ _ rfl) hS2.out rfl ⟨C2, rfl, ⟨KE.out.2, BK.ofLow KE.out.1.low hB.out⟩⟩
theorem rdraw_none (w : World) (B : Nat) (C D : Array Value) (g : Gm) (f : Fo) (d : Fd) (hG : Hid (GO B w C g)) (hB : Hid (B ≤ w.heap.size)) (hf : Hid (FL w D f)) (x y n b a p q : Nat) (hn : n < 16) (hm3 : g.me.length = 3232) (hpg : g.pg.length = 256) (hfb : f.by_.length ≤ 4000000000) (hp : (g.v.getD x 0).toNat = p) (hq : (g.v.getD y 0).toNat = q) (OC : Array Value) (hOC : Hid (OC = #[.int .u8 20, .int .u8 (x : Int), .int .u8 (y : Int), .int .u8 (n : Int), .int .u8 (b : Int), .int .u16 (a : Int)])) (hrd : readG g f g.i n = none) :
    Calls Tryz.prog 69 #[.agg C, .agg OC, .agg D, .int .u8 (p : Int), .int .u8 (q : Int)] w (RdE B w (doG g ⟨20, x, y, n, b, a⟩ f d)) := by
  have gC : Hid (C.size = 23) := hG.out.lies.size.1
  have gD : Hid (D.size = 18) := hf.out.size
  obtain ⟨ZC, hZ⟩ : ∃ x : Array Value, Hid (x = gZ) := ⟨_, (rfl : gZ = gZ)⟩
  have hZ' : Hid (ZC.size = 23) := by show _ = _; rw [hZ.out]; rfl
  have lp : p < 256 := by rw [← hp]; exact UInt8.toNat_lt _
  have lq : q < 256 := by rw [← hq]; exact UInt8.toNat_lt _
  have ipi : (p : Int) < 256 := by omega
  have iqi : (q : Int) < 256 := by omega
  have ini : (n : Int) < 16 := by omega
  have fI : Hid (C[16]? = some (.int .u16 (g.i : Int))) := hG.out.rest.1
  have iI : (g.i : Int) < 65536 := by have := hG.out.ok.i; omega
  have hip : Hid (g.i < 65536) := hG.out.ok.i
  have hm' : Hid (g.me.length = 3232) := hm3
  have hpg' : Hid (g.pg.length = 256) := hpg
  have hfb' : Hid (f.by_.length ≤ 4000000000) := hfb
  have hn' : Hid (n < 16) := hn
  have hrd' : Hid (readG g f g.i n = none) := hrd
  have eR : Hid (doG g ⟨20, x, y, n, b, a⟩ f d = (g, 7)) := by
    show (match readG g f g.i n with | none => (g, 7) | some l => (setG { g with pg := (drawS ((g.v.getD x 0).toNat % 64) ((g.v.getD y 0).toNat % 32) l g.pg (8 * l.length)).1 } 15 (oneG (drawS ((g.v.getD x 0).toNat % 64) ((g.v.getD y 0).toNat % 32) l g.pg (8 * l.length)).2), 1)) = _
    rw [hrd'.out]
    skip
  rw [eR.out]
  clear hp hq lp lq hm3 hrd hfb hn hpg
  go_enter Tryz.func69, Tryz.ntmps69
  go_wp2_with (first
    | ((with_reducible refine at_st rtG (w.heap.size + 3) ZC C ?_ ?_ ?_ ?_ (.tmp 10) (.tmp 31) ?_ ?_ ?_ ?_ ?_); exact K1.out.1.bx 3 _ _ _ rfl; exact hZ'.out; exact gC.out; exact K1.out.2.lies.size.2.1; rfl; rfl; rfl; rfl; intro yE HE; have KE : Hid (Fm w [(w.heap.size, C, 27), (w.heap.size + 1, OC, 60), (w.heap.size + 2, D, 30), (w.heap.size + 3, C, 27)] yE ∧ GO B yE C g) := ⟨K1.out.1.put 3 _ _ _ _ rfl HE.out, (K1.out.2).offT (K1.out.1.bx 3 _ _ _ rfl) (by decide) (by decide) HE.out.2.2⟩; clear HE)
    | (go_at_call 94; refine (rread_any y0 C D g f g.i n K0.out.2.lies (hf.out.below K0.out.1.low) hm' hfb' hip.out (Nat.le_trans (Nat.le_of_lt hn'.out) (by decide))).mono ?_; rw [hrd'.out]; rintro e y1 ⟨rfl, H⟩; have K1 : Hid (Fm w [(w.heap.size, C, 27), (w.heap.size + 1, OC, 60), (w.heap.size + 2, D, 30), (w.heap.size + 3, ZC, 27)] y1 ∧ GO B y1 C g) := ⟨K0.out.1.below H, K0.out.2.below H⟩; clear H)
    | ((with_reducible refine gen_world ((((w.alloc (.cells C 27)).alloc (.cells OC 60)).alloc (.cells D 30)).alloc (.cells z23A 27)) (fun y => Fm w [(w.heap.size, C, 27), (w.heap.size + 1, OC, 60), (w.heap.size + 2, D, 30), (w.heap.size + 3, ZC, 27)] y ∧ GO B y C g) ?_ ?_); (rw [hZ.out]; unfold gZ; exact ⟨Fm.four' w _ _ _ _ _ _ _ _, hG.out.below (Fm.four' w _ _ _ _ _ _ _ _).low⟩); intro y0 K0; have e16 := (K0.out.1.bx 0 _ _ _ rfl).c 16 _ fI.out; have e3 := (K0.out.1.bx 1 _ _ _ rfl).c 3 (.int .u8 (n : Int)) (by rw [hOC.out]; rfl))
    | ((with_reducible refine at_load rtG w.heap.size C ?_ ?_ (.tmp 5) ?_ ?_ ?_ ?_); (first | exact K1.out.1.bx 0 _ _ _ rfl | exact K0.out.1.bx 0 _ _ _ rfl); exact gC.out; kernel_rfl; rfl; rfl)
    | ((with_reducible refine at_load rtFn (w.heap.size + 2) D ?_ ?_ (.tmp 7) ?_ ?_ ?_ ?_); exact K0.out.1.bx 2 _ _ _ rfl; exact gD.out; kernel_rfl; rfl; rfl))
  exact ret_two rtG rfl rfl rfl (KE.out.1.bx 3 _ _ _ rfl) gC.out rfl ⟨C, rfl, ⟨KE.out.2, BK.ofLow KE.out.1.low hB.out⟩⟩
end Go.Proofs.YteipjkjpeookaaaGreat

namespace Go.Proofs.YteipjkjpeookaaaGreat
open Go Go.RowKit Go.Shelf
set_option linter.unusedVariables false
set_option maxHeartbeats 1000000
set_option maxRecDepth 100000

theorem BK.then {B : Nat} {w y z : World} (h : BK B w y) (k : BK B y z) : BK B w z := ⟨h.low.trans k.low, fun b cs t hx h1 h2 => k.kp b cs t (h.kp b cs t hx h1 h2) h1 h2⟩
theorem rdo_oth (w : World) (B : Nat) (C D : Array Value) (g : Gm) (f : Fo) (d : Fd) (hG : Hid (GO B w C g)) (hB : Hid (B ≤ w.heap.size)) (hf : Hid (FL w D f)) (hd : Hid d.Ok) (k x y n b a : Nat) (hx : x < 16) (hy : y < 16) (hb : b < 256) (ha : a < 65536) (hk : 23 ≤ k ∧ k ≤ 31) (hO : Hid (∀ u, GO B u C g → Below w.heap.size w u → Calls Tryz.prog 70 #[.agg C, .agg #[.int .u8 (k : Int), .int .u8 (x : Int), .int .u8 (y : Int), .int .u8 (n : Int), .int .u8 (b : Int), .int .u16 (a : Int)], .agg D, .agg (dCs d)] u (RdE B u (doG g ⟨k, x, y, n, b, a⟩ f d)))) :
    Calls Tryz.prog 31 #[.agg C, .agg #[.int .u8 (k : Int), .int .u8 (x : Int), .int .u8 (y : Int), .int .u8 (n : Int), .int .u8 (b : Int), .int .u16 (a : Int)], .agg D, .agg (dCs d)] w (RdE B w (doG g ⟨k, x, y, n, b, a⟩ f d)) := by
  obtain ⟨ZC, p, q, gC, gD, hZ, hZ', hp, hq, lp, lq, fV, ixx, ixy, ixi, iyi, ibi, iai, ipi, iqi⟩ := pre_do w B C D g f x y b a hG hf hx hy hb ha
  obtain ⟨OC, hOC⟩ := hid_ex #[.int .u8 (k : Int), .int .u8 (x : Int), .int .u8 (y : Int), .int .u8 (n : Int), .int .u8 (b : Int), .int .u16 (a : Int)]
  rw [← hOC.out]
  have kk : (k : Int) < 256 := by omega
  have c2 : ((k : Int) == 2) = false := by simp; omega
  have c3 : ((k : Int) == 3) = false := by simp; omega
  have c4 : ((k : Int) == 4) = false := by simp; omega
  have c5 : ((k : Int) == 5) = false := by simp; omega
  have c6 : ((k : Int) == 6) = false := by simp; omega
  have c7 : ((k : Int) == 7) = false := by simp; omega
  have c8 : ((k : Int) == 8) = false := by simp; omega
  have c9 : ((k : Int) == 9) = false := by simp; omega
  have c10 : ((k : Int) == 10) = false := by simp; omega
  have c11 : ((k : Int) == 11) = false := by simp; omega
  have c12 : ((k : Int) == 12) = false := by simp; omega
  have c13 : ((k : Int) == 13) = false := by simp; omega
  have c14 : ((k : Int) == 14) = false := by simp; omega
  have c15 : ((k : Int) == 15) = false := by simp; omega
  have c16 : ((k : Int) == 16) = false := by simp; omega
  have c17 : ((k : Int) == 17) = false := by simp; omega
  have c18 : ((k : Int) == 18) = false := by simp; omega
  have c19 : ((k : Int) == 19) = false := by simp; omega
  have c20 : ((k : Int) == 20) = false := by simp; omega
  have c21 : ((k : Int) == 21) = false := by simp; omega
  have c22 : ((k : Int) == 22) = false := by simp; omega
  obtain ⟨R, hR⟩ : ∃ z, doG g ⟨k, x, y, n, b, a⟩ f d = z := ⟨_, rfl⟩
  rw [hR]
  obtain ⟨g2, r⟩ := R
  have hO' : Hid (∀ u, GO B u C g → Below w.heap.size w u → Calls Tryz.prog 70 #[.agg C, .agg OC, .agg D, .agg (dCs d)] u (fun e u' => ∃ C', e = .returned (.tuple #[.agg C', .int .u8 (r : Int)]) ∧ Hid (GO B u' C' g2 ∧ BK B u u'))) := fun u h1 h2 => by
    have h3 := hO.out u h1 h2
    rw [hR] at h3
    rw [hOC.out]
    exact h3
  clear hx hy hb ha hp hq lp lq hO hR hk
  go_enter Tryz.func31, Tryz.ntmps31
  go_wp2_with (first
    | ((with_reducible refine at_st rtG (w.heap.size + 4) ZC C1 ?_ ?_ ?_ ?_ (.tmp 8) (.tmp 30) ?_ ?_ ?_ ?_ ?_); exact K1.out.1; exact hZ'.out; exact K1.out.2.1.lies.size.1; exact K1.out.2.1.lies.size.2.1; rfl; rfl; rfl; rfl; intro yE HE; have KE : Hid (Bx yE (w.heap.size + 4) C1 27 ∧ GO B yE C1 g2 ∧ BK B w yE) := ⟨HE.out.1, (K1.out.2.1).offT (K1.out.1) (by decide) (by decide) HE.out.2.2, K1.out.2.2.tr hB.out (HE.out.2.1 w.heap.size (Nat.le_add_right _ _))⟩; clear HE)
    | (go_at_call 70; refine (hO'.out y0 K0.out.2 K0.out.1.low).mono ?_; rintro e y1 ⟨C1, rfl, H⟩; have K1 : Hid (Bx y1 (w.heap.size + 4) ZC 27 ∧ GO B y1 C1 g2 ∧ BK B w y1) := ⟨H.out.2.kp _ _ _ (K0.out.1.bx 4 _ _ _ rfl) (by decide) (by decide), H.out.1, (BK.ofLow K0.out.1.low hB.out).then H.out.2⟩; clear H)
    | ((with_reducible refine gen_world (((((w.alloc (.cells C 27)).alloc (.cells OC 60)).alloc (.cells D 30)).alloc (.cells (dCs d) 38)).alloc (.cells z23A 27)) (fun y => Fm w [(w.heap.size, C, 27), (w.heap.size + 1, OC, 60), (w.heap.size + 2, D, 30), (w.heap.size + 3, (dCs d), 38), (w.heap.size + 4, ZC, 27)] y ∧ GO B y C g) ?_ ?_); (rw [hZ.out]; unfold gZ; exact ⟨Fm.five w _ _ _ _ _ _ _ _ _ _, hG.out.below (Fm.five w _ _ _ _ _ _ _ _ _ _).low⟩); intro y0 K0; obtain ⟨v1, v2, e0, e1, e2, e4, e5⟩ := five_cells (K := k) K0.out.1 fV.out hOC.out)
    | ((with_reducible refine at_load rtO (w.heap.size + 1) OC ?_ ?_ (.tmp 5) ?_ ?_ ?_ ?_); exact K0.out.1.bx 1 _ _ _ rfl; (rw [hOC.out]; rfl); kernel_rfl; rfl; rfl)
    | ((with_reducible refine at_load rtFn (w.heap.size + 2) D ?_ ?_ (.tmp 6) ?_ ?_ ?_ ?_); exact K0.out.1.bx 2 _ _ _ rfl; exact gD.out; kernel_rfl; rfl; rfl)
    | ((with_reducible refine at_load rtFd (w.heap.size + 3) (dCs d) ?_ ?_ (.tmp 7) ?_ ?_ ?_ ?_); exact K0.out.1.bx 3 _ _ _ rfl; rfl; kernel_rfl; rfl; rfl)
    | ((with_reducible refine at_load rtG w.heap.size C ?_ ?_ (.tmp 4) ?_ ?_ ?_ ?_); exact K0.out.1.bx 0 _ _ _ rfl; exact gC.out; kernel_rfl; rfl; rfl))
  exact ret_two rtG rfl rfl rfl KE.out.1 KE.out.2.1.lies.size.1 rfl ⟨C1, rfl, ⟨KE.out.2.1, KE.out.2.2⟩⟩
end Go.Proofs.YteipjkjpeookaaaGreat

namespace Go.Proofs.YteipjkjpeookaaaGreat
open Go Go.RowKit Go.Shelf
set_option linter.unusedVariables false
set_option maxHeartbeats 1000000
set_option maxRecDepth 100000

theorem rdo_draw (w : World) (B : Nat) (C D : Array Value) (g : Gm) (f : Fo) (d : Fd) (hG : Hid (GO B w C g)) (hB : Hid (B ≤ w.heap.size)) (hf : Hid (FL w D f)) (hd : Hid d.Ok) (x y n b a : Nat) (hx : x < 16) (hy : y < 16) (hb : b < 256) (ha : a < 65536) (hn : n < 16) (hm3 : g.me.length = 3232) (hpg : g.pg.length = 256) (hfb : f.by_.length ≤ 4000000000) :
    Calls Tryz.prog 31 #[.agg C, .agg #[.int .u8 20, .int .u8 (x : Int), .int .u8 (y : Int), .int .u8 (n : Int), .int .u8 (b : Int), .int .u16 (a : Int)], .agg D, .agg (dCs d)] w (RdE B w (doG g ⟨20, x, y, n, b, a⟩ f d)) := by
  obtain ⟨ZC, p, q, gC, gD, hZ, hZ', hp, hq, lp, lq, fV, ixx, ixy, ixi, iyi, ibi, iai, ipi, iqi⟩ := pre_do w B C D g f x y b a hG hf hx hy hb ha
  obtain ⟨OC, hOC⟩ := hid_ex #[.int .u8 20, .int .u8 (x : Int), .int .u8 (y : Int), .int .u8 (n : Int), .int .u8 (b : Int), .int .u16 (a : Int)]
  rw [← hOC.out]
  obtain ⟨R, hR⟩ : ∃ z, doG g ⟨20, x, y, n, b, a⟩ f d = z := ⟨_, rfl⟩
  rw [hR]
  obtain ⟨g2, r⟩ := R
  have hO' : Hid (∀ u, GO B u C g → Below w.heap.size w u → Calls Tryz.prog 69 #[.agg C, .agg OC, .agg D, .int .u8 (p : Int), .int .u8 (q : Int)] u (fun e u' => ∃ C', e = .returned (.tuple #[.agg C', .int .u8 (r : Int)]) ∧ Hid (GO B u' C' g2 ∧ BK B u u'))) := fun u h1 h2 => by
    rcases hrd : readG g f g.i n with _ | l
    · have h3 := rdraw_none u B C D g f d h1 (Nat.le_trans hB.out h2.size) (hf.out.below h2) x y n b a p q hn hm3 hpg hfb hp hq OC hOC hrd
      rw [hR] at h3
      exact h3
    · have h3 := rdraw_some u B C D g f d h1 (Nat.le_trans hB.out h2.size) (hf.out.below h2) x y n b a p q hn hm3 hpg hfb hp hq OC hOC l hrd
      rw [hR] at h3
      exact h3
  clear hx hy hb ha hp hq lp lq hR hn hm3 hpg hfb
  go_enter Tryz.func31, Tryz.ntmps31
  go_wp2_with (first
    | ((with_reducible refine at_st rtG (w.heap.size + 4) ZC C1 ?_ ?_ ?_ ?_ (.tmp 8) (.tmp 172) ?_ ?_ ?_ ?_ ?_); exact K1.out.1; exact hZ'.out; exact K1.out.2.1.lies.size.1; exact K1.out.2.1.lies.size.2.1; rfl; rfl; rfl; rfl; intro yE HE; have KE : Hid (Bx yE (w.heap.size + 4) C1 27 ∧ GO B yE C1 g2 ∧ BK B w yE) := ⟨HE.out.1, (K1.out.2.1).offT (K1.out.1) (by decide) (by decide) HE.out.2.2, K1.out.2.2.tr hB.out (HE.out.2.1 w.heap.size (Nat.le_add_right _ _))⟩; clear HE)
    | (go_at_call 69; refine (hO'.out y0 K0.out.2 K0.out.1.low).mono ?_; rintro e y1 ⟨C1, rfl, H⟩; have K1 : Hid (Bx y1 (w.heap.size + 4) ZC 27 ∧ GO B y1 C1 g2 ∧ BK B w y1) := ⟨H.out.2.kp _ _ _ (K0.out.1.bx 4 _ _ _ rfl) (by decide) (by decide), H.out.1, (BK.ofLow K0.out.1.low hB.out).then H.out.2⟩; clear H)
    | ((with_reducible refine gen_world (((((w.alloc (.cells C 27)).alloc (.cells OC 60)).alloc (.cells D 30)).alloc (.cells (dCs d) 38)).alloc (.cells z23A 27)) (fun y => Fm w [(w.heap.size, C, 27), (w.heap.size + 1, OC, 60), (w.heap.size + 2, D, 30), (w.heap.size + 3, (dCs d), 38), (w.heap.size + 4, ZC, 27)] y ∧ GO B y C g) ?_ ?_); (rw [hZ.out]; unfold gZ; exact ⟨Fm.five w _ _ _ _ _ _ _ _ _ _, hG.out.below (Fm.five w _ _ _ _ _ _ _ _ _ _).low⟩); intro y0 K0; obtain ⟨v1, v2, e0, e1, e2, e4, e5⟩ := five_cells (K := 20) K0.out.1 fV.out hOC.out)
    | ((with_reducible refine at_load rtO (w.heap.size + 1) OC ?_ ?_ (.tmp 5) ?_ ?_ ?_ ?_); exact K0.out.1.bx 1 _ _ _ rfl; (rw [hOC.out]; rfl); kernel_rfl; rfl; rfl)
    | ((with_reducible refine at_load rtFn (w.heap.size + 2) D ?_ ?_ (.tmp 6) ?_ ?_ ?_ ?_); exact K0.out.1.bx 2 _ _ _ rfl; exact gD.out; kernel_rfl; rfl; rfl)
    | ((with_reducible refine at_load rtG w.heap.size C ?_ ?_ (.tmp 4) ?_ ?_ ?_ ?_); exact K0.out.1.bx 0 _ _ _ rfl; exact gC.out; kernel_rfl; rfl; rfl))
  exact ret_two rtG rfl rfl rfl KE.out.1 KE.out.2.1.lies.size.1 rfl ⟨C1, rfl, ⟨KE.out.2.1, KE.out.2.2⟩⟩
end Go.Proofs.YteipjkjpeookaaaGreat
