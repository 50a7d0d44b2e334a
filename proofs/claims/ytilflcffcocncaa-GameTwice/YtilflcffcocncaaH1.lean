/- GameTwice: drawn twice the page is as it was. -/
import Derived.Test.YtilflcffcocncaaHm
namespace Go.Proofs.Ytilflcffcocncaa
open Go Go.RowKit Go.Shelf
set_option linter.unusedVariables false
set_option maxHeartbeats 1000000
set_option maxRecDepth 20000

theorem step_aw2 (y : World) (C D : Array Value) (g : Gm) (f : Fo) (h : GL y C g) (hf : FL y D f) (hs : smaG g f) (s1 : Gm) (o1 e1 : Nat) (he : stepG g f fd0 = (s1, o1, e1)) : Calls Try.prog 22 #[.agg C, .agg D, .agg #[.int .u8 0, .int .u16 0, .int .i64 (-1)]] y fun e w' => ∃ C', e = .returned (.tuple #[.agg C', .int .u8 (o1 : Int), .int .i64 (e1 : Int)]) ∧ GO y.heap.size w' C' s1 ∧ Below y.heap.size y w' := by
  have := step_any y C D g f fd0 h hf ⟨by decide, by decide, by decide⟩ hs
  rw [he] at this
  exact this
theorem GO.page {B : Nat} {w : World} {C : Array Value} {g : Gm} (h : GO B w C g) : ∃ s n c, C[21]? = some (.slice s n c) ∧ (convert 22 9 (.slice s n c)).run Try.prog w = .ok (.string (sB g.pg)) w := by
  obtain ⟨⟨vS, vP, vM, e, h1, h2, h3, h4⟩, ok⟩ := h
  obtain ⟨s2, c2, e2, l2, _⟩ := OwnL.open kByte.len h2
  exact ⟨s2, _, c2, by rw [e, e2]; rfl, lb_conv l2 c2⟩
theorem GO.meAt {B : Nat} {w : World} {C : Array Value} {g : Gm} (h : GO B w C g) {gM n cM : Nat} (hC : C[22]? = some (.slice (some ⟨gM, 0, none⟩) n cM)) (k : Nat) (hk : k < g.me.length) : w.cell? ⟨gM, k, none⟩ = some (.int .u8 ((g.me.getD k 0).toNat : Int)) := by
  obtain ⟨⟨vS, vP, vM, e, h1, h2, h3, h4⟩, ok⟩ := h
  have eM : vM = .slice (some ⟨gM, 0, none⟩) n cM := by
    rw [e] at hC
    exact Option.some.inj hC
  subst eM
  obtain ⟨sp, cap, ev, hl, k0, _⟩ := OwnL.open kByte.len h3
  injection ev with ev1 ev2 ev3
  subst ev1
  have hc := lb_at hl k hk
  rw [Nat.zero_add] at hc
  exact hc
theorem boxT2 {c1 c2 : Array Value} {b1 b2 : Nat} : ∀ (i b : Nat) (c : Array Value) (u : TypeId), [(b1, c1, 29), (b2, c2, 40)][i]? = some (b, c, u) → u ≠ 5 := by
  intro i b c u h
  match i with
  | 0 => simp at h; rw [← h.2.2]; decide
  | 1 => simp at h; rw [← h.2.2]; decide
  | i + 2 => simp at h
theorem tdivI {a b n : Int} (h : -9223372036854775808 ≤ a ∧ a ≤ 9223372036854775807) (e : Int.tdiv a n = b) (hn : 0 < n) : -9223372036854775808 ≤ b ∧ b ≤ 9223372036854775807 := by
  have h1 := Int.natAbs_tdiv_le_natAbs a n
  rw [e] at h1
  rcases Int.le_total 0 a with h0 | h0
  · have := Int.tdiv_nonneg h0 (Int.le_of_lt hn)
    omega
  · have := Int.tdiv_nonneg (show 0 ≤ -a by omega) (Int.le_of_lt hn)
    rw [Int.neg_tdiv] at this
    omega
theorem twice_vast (w : World) (C D : Array Value) (g : Gm) (f : Fo) (a : Int) (hg : Hid (GL w C g)) (hf : Hid (FL w D f)) (ha : -9223372036854775808 ≤ a ∧ a ≤ 9223372036854775807) (hv : Hid (vasG g.st.length g.pg.length g.me.length f.by_.length = true)) :
    Calls Try.prog 7 #[.agg C, .agg D, .int .i64 a] w fun e w' => e = .returned (.bool true) ∧ Below w.heap.size w w' := by
  have gC : Hid (C.size = 23) := hg.out.size.1
  have gD : Hid (D.size = 18) := hf.out.size
  go_enter Try.func7, Try.ntmps7
  go_wp2_with (first
    | (go_at_call 15; refine (vast_gl y1 C D g f (hg.out.below K1.out.1.low) (hf.out.below K1.out.1.low)).mono ?_; rintro e y2 ⟨rfl, H⟩; have K2 : Hid (Fm w [(w.heap.size, C, 29), (w.heap.size + 1, D, 40)] y2 ∧ True) := ⟨K1.out.1.below H, trivial⟩; rw [hv.out]; clear H)
    | (go_at_call 8; refine (awake_any y0).mono ?_; rintro e y1 ⟨rfl, H⟩; have K1 : Hid (Fm w [(w.heap.size, C, 29), (w.heap.size + 1, D, 40)] y1 ∧ True) := ⟨K0.out.1.below H, trivial⟩; clear H)
    | ((with_reducible refine gen_world ((w.alloc (.cells C 29)).alloc (.cells D 40)) (fun y => Fm w [(w.heap.size, C, 29), (w.heap.size + 1, D, 40)] y ∧ True) ?_ ?_); (exact ⟨Fm.two w _ _ _ _ , trivial⟩); intro y0 K0)
    | ((with_reducible refine at_load rtG (w.heap.size) C ?_ ?_ (.tmp 3) ?_ ?_ ?_ ?_); (first | exact K1.out.1.bx 0 _ _ _ rfl); (first | exact gC.out); kernel_rfl; rfl; rfl)
    | ((with_reducible refine at_load rtFn (w.heap.size + 1) D ?_ ?_ (.tmp 4) ?_ ?_ ?_ ?_); (first | exact K1.out.1.bx 1 _ _ _ rfl); (first | exact gD.out); kernel_rfl; rfl; rfl))
  go_ret
  exact ⟨rfl, K2.out.1.low⟩

theorem twice_bad (w : World) (C D : Array Value) (g : Gm) (f : Fo) (a : Int) (hg : Hid (GL w C g)) (hf : Hid (FL w D f)) (ha : -9223372036854775808 ≤ a ∧ a ≤ 9223372036854775807) (hv : Hid (vasG g.st.length g.pg.length g.me.length f.by_.length = false)) (hm : Hid (g.may = false)) :
    Calls Try.prog 7 #[.agg C, .agg D, .int .i64 a] w fun e w' => e = .returned (.bool true) ∧ Below w.heap.size w w' := by
  have gC : Hid (C.size = 23) := hg.out.size.1
  have gD : Hid (D.size = 18) := hf.out.size
  go_enter Try.func7, Try.ntmps7
  go_wp2_with (first
    | (go_at_call 20; refine (rcheck_gl y2 C g (hg.out.below K2.out.1.low)).mono ?_; rintro e y3 ⟨rfl, H⟩; have K3 : Hid (Fm w [(w.heap.size, C, 29), (w.heap.size + 1, D, 40)] y3 ∧ True) := ⟨K2.out.1.below H, trivial⟩; rw [hm.out]; clear H)
    | (go_at_call 15; refine (vast_gl y1 C D g f (hg.out.below K1.out.1.low) (hf.out.below K1.out.1.low)).mono ?_; rintro e y2 ⟨rfl, H⟩; have K2 : Hid (Fm w [(w.heap.size, C, 29), (w.heap.size + 1, D, 40)] y2 ∧ True) := ⟨K1.out.1.below H, trivial⟩; rw [hv.out]; clear H)
    | (go_at_call 8; refine (awake_any y0).mono ?_; rintro e y1 ⟨rfl, H⟩; have K1 : Hid (Fm w [(w.heap.size, C, 29), (w.heap.size + 1, D, 40)] y1 ∧ True) := ⟨K0.out.1.below H, trivial⟩; clear H)
    | ((with_reducible refine gen_world ((w.alloc (.cells C 29)).alloc (.cells D 40)) (fun y => Fm w [(w.heap.size, C, 29), (w.heap.size + 1, D, 40)] y ∧ True) ?_ ?_); (exact ⟨Fm.two w _ _ _ _ , trivial⟩); intro y0 K0)
    | ((with_reducible refine at_load rtG (w.heap.size) C ?_ ?_ (.tmp 3) ?_ ?_ ?_ ?_); (first | exact K2.out.1.bx 0 _ _ _ rfl | exact K1.out.1.bx 0 _ _ _ rfl); (first | exact gC.out); kernel_rfl; rfl; rfl)
    | ((with_reducible refine at_load rtFn (w.heap.size + 1) D ?_ ?_ (.tmp 4) ?_ ?_ ?_ ?_); (first | exact K1.out.1.bx 1 _ _ _ rfl); (first | exact gD.out); kernel_rfl; rfl; rfl))
  go_ret
  exact ⟨rfl, K3.out.1.low⟩

theorem twice_arg (w : World) (C D : Array Value) (g : Gm) (f : Fo) (a : Int) (hg : Hid (GL w C g)) (hf : Hid (FL w D f)) (ha : -9223372036854775808 ≤ a ∧ a ≤ 9223372036854775807) (hv : Hid (vasG g.st.length g.pg.length g.me.length f.by_.length = false)) (hm : Hid (g.may = true)) (hs : Hid (smaG g f)) (P X Y : Nat) (a1 a2 : Int) (hP : Hid ((if a < 0 then -(a + 1) else a) % 16 = (P : Int))) (wa1 : Int.tdiv a 16 = a1) (wa2 : Int.tdiv a 240 = a2) (ha1 : -9223372036854775808 ≤ a1 ∧ a1 ≤ 9223372036854775807) (ha2 : -9223372036854775808 ≤ a2 ∧ a2 ≤ 9223372036854775807) (hX : Hid ((if a1 < 0 then -(a1 + 1) else a1) % 15 = (X : Int))) (hY : Hid ((if a2 < 0 then -(a2 + 1) else a2) % 15 = (Y : Int))) (hP1 : P < 16) (hX1 : X < 15) (hY1 : Y < 15) (b1 b2 : UInt8) (hb1 : b1.toNat = 208 + X) (hb2 : b2.toNat = 16 * Y + P) (G2 : Gm) (hG2 : Hid (G2 = { g with pc := 512, me := (((g.me.set 0 b1).set 1 b2).set 2 b1).set 3 b2 })) (hsG : Hid (smaG G2 f)) (s1 : Gm) (o1 e1 : Nat) (hs1 : Hid (stepG G2 f fd0 = (s1, o1, e1))) (he : e1 = 1) :
    Calls Try.prog 7 #[.agg C, .agg D, .int .i64 a] w fun e w' => e = .returned (.bool true) ∧ Below w.heap.size w w' := by
  have gC : Hid (C.size = 23) := hg.out.size.1
  have gD : Hid (D.size = 18) := hf.out.size
  have nst : Hid (g.st.length ≤ 4000000000 ∧ g.pg.length ≤ 4000000000 ∧ g.me.length ≤ 4000000000) := by have := hs.out; unfold smaG at this; exact ⟨by omega, by omega, by omega⟩
  have hml' : Hid (g.me.length = 3232) := (may_iff.1 hm.out).2.1
  have w1' : IntKind.i64.wrap (Int.tdiv a 16) = a1 := by rw [wa1, IntKind.wrap_i64]; omega
  have w2' : IntKind.i64.wrap (Int.tdiv a 240) = a2 := by rw [wa2, IntKind.wrap_i64]; omega
  have l1 : (P : Int) < 16 := by omega
  have l2 : (X : Int) < 15 := by omega
  have l3 : (Y : Int) < 15 := by omega
  obtain ⟨B1, hB1⟩ : ∃ x, b1.toNat = x := ⟨_, rfl⟩
  obtain ⟨B2, hB2⟩ : ∃ x, b2.toNat = x := ⟨_, rfl⟩
  have w7 : (208 : Int) + (X : Int) = (B1 : Int) := by omega
  have w7' : IntKind.u8.wrap ((208 : Int) + (X : Int)) = (B1 : Int) := by rw [IntKind.wrap_u8]; omega
  obtain ⟨Z, hZ⟩ : ∃ x, 16 * Y = x := ⟨_, rfl⟩
  have w8 : (16 : Int) * (Y : Int) = (Z : Int) := by omega
  have w9 : (Z : Int) + (P : Int) = (B2 : Int) := by omega
  have l4 : (Z : Int) < 256 := by omega
  have l5 : (B1 : Int) < 256 := by omega
  have l6 : (B2 : Int) < 256 := by omega
  have hBB : Hid (b1.toNat = B1 ∧ b2.toNat = B2) := ⟨hB1, hB2⟩
  clear hP1 hX1 hY1 hb1 hb2 hB1 hB2 hZ
  have q1 : ((e1 : Int) != 0) = true := by simp; omega
  have q2 : ((e1 : Int) == 1) = true := by simp; omega
  clear he
  go_enter Try.func7, Try.ntmps7
  go_upto_region 11 with (first
    | ((with_reducible refine at_st rtG (w.heap.size) C C2 ?_ ?_ ?_ ?_ (.tmp 3) (.tmp 37) ?_ ?_ ?_ ?_ ?_); exact K4.out.1.bx 0 _ _ _ rfl; exact gC.out; exact (K4.out.2.1).lies.size.1; exact (K4.out.2.1).lies.size.2.1; rfl; rfl; rfl; rfl; intro y5 H5; have K5 : Hid (Fm w [(w.heap.size, C2, 29), (w.heap.size + 1, D, 40)] y5 ∧ GO w.heap.size y5 C2 g ∧ True) := ⟨K4.out.1.put 0 _ _ _ _ rfl H5.out, (K4.out.2.1).offT (K4.out.1.bx 0 _ _ _ rfl) (by decide) (by decide) H5.out.2.2, trivial⟩; clear H5)
    | (go_at_call 25; refine (copied_any y3 C g (hg.out.below K3.out.1.low) nst.out.1 nst.out.2.1 nst.out.2.2).mono ?_; rintro e y4 ⟨C2, rfl, H⟩; have K4 : Hid (Fm w [(w.heap.size, C, 29), (w.heap.size + 1, D, 40)] y4 ∧ GO w.heap.size y4 C2 g ∧ True) := ⟨K3.out.1.below H.out.2, H.out.1.weak K3.out.1.low.size, trivial⟩; clear H)
    | (go_at_call 24; with_reducible refine (pick_any y3 a2 15 ha2 (by decide)).mono ?_; rintro e yp ⟨rfl, ep⟩; replace ep := ep.symm; subst ep; rw [hY.out])
    | (go_at_call 24; with_reducible refine (pick_any y3 a1 15 ha1 (by decide)).mono ?_; rintro e yp ⟨rfl, ep⟩; replace ep := ep.symm; subst ep; rw [hX.out])
    | (go_at_call 24; with_reducible refine (pick_any y3 a 16 ha (by decide)).mono ?_; rintro e yp ⟨rfl, ep⟩; replace ep := ep.symm; subst ep; rw [hP.out])
    | (go_at_call 20; refine (rcheck_gl y2 C g (hg.out.below K2.out.1.low)).mono ?_; rintro e y3 ⟨rfl, H⟩; have K3 : Hid (Fm w [(w.heap.size, C, 29), (w.heap.size + 1, D, 40)] y3 ∧ True) := ⟨K2.out.1.below H, trivial⟩; rw [hm.out]; clear H)
    | (go_at_call 15; refine (vast_gl y1 C D g f (hg.out.below K1.out.1.low) (hf.out.below K1.out.1.low)).mono ?_; rintro e y2 ⟨rfl, H⟩; have K2 : Hid (Fm w [(w.heap.size, C, 29), (w.heap.size + 1, D, 40)] y2 ∧ True) := ⟨K1.out.1.below H, trivial⟩; rw [hv.out]; clear H)
    | (go_at_call 8; refine (awake_any y0).mono ?_; rintro e y1 ⟨rfl, H⟩; have K1 : Hid (Fm w [(w.heap.size, C, 29), (w.heap.size + 1, D, 40)] y1 ∧ True) := ⟨K0.out.1.below H, trivial⟩; clear H)
    | ((with_reducible refine gen_world ((w.alloc (.cells C 29)).alloc (.cells D 40)) (fun y => Fm w [(w.heap.size, C, 29), (w.heap.size + 1, D, 40)] y ∧ True) ?_ ?_); (exact ⟨Fm.two w _ _ _ _ , trivial⟩); intro y0 K0)
    | ((with_reducible refine at_load rtG (w.heap.size) C ?_ ?_ (.tmp 3) ?_ ?_ ?_ ?_); (first | exact K3.out.1.bx 0 _ _ _ rfl | exact K2.out.1.bx 0 _ _ _ rfl | exact K1.out.1.bx 0 _ _ _ rfl); (first | exact gC.out | exact (K3.out.2.1).lies.size.1 | exact (K2.out.2.1).lies.size.1 | exact (K1.out.2.1).lies.size.1); kernel_rfl; rfl; rfl)
    | ((with_reducible refine at_load rtFn (w.heap.size + 1) D ?_ ?_ (.tmp 4) ?_ ?_ ?_ ?_); (first | exact K1.out.1.bx 1 _ _ _ rfl); (first | exact gD.out); kernel_rfl; rfl; rfl))
  obtain ⟨gM, cM, hM⟩ := (K5.out.2.1).memC (by rw [hml'.out]; decide)
  rw [hml'.out] at hM
  have c22 := (K5.out.1.bx 0 _ _ _ rfl).c 22 _ hM
  have c17 := (K5.out.1.bx 0 _ _ _ rfl).c 17 _ ((K5.out.2.1).cells).choose_spec.choose_spec.choose_spec.choose_spec.1
  have z17 := (K5.out.1.bx 0 _ _ _ rfl).fz 17
  obtain ⟨lM, ⟨csM, xM⟩, ⟨v0, d0⟩, f0, _⟩ := (K5.out.2.1).setMe hM 0 (by rw [hml'.out]; decide)
  obtain ⟨_, _, ⟨v1, d1⟩, f1, _⟩ := (K5.out.2.1).setMe hM 1 (by rw [hml'.out]; decide)
  obtain ⟨C3, hC3⟩ : ∃ x, Hid (x = C2.setIfInBounds 17 (.int .u16 512)) := ⟨_, (rfl : C2.setIfInBounds 17 (.int .u16 512) = _)⟩
  have hM3 : Hid (C3[22]? = some (.slice (some ⟨gM, 0, none⟩) 3232 cM)) := by rw [hC3.out]; show _ = _; rw [Array.getElem?_setIfInBounds_ne (by decide)]; exact hM
  have ix0 := fun v => idxB .i64 gM 0 3232 cM 0 v (by decide)
  have ix1 := fun v => idxB .i64 gM 0 3232 cM 1 v (by decide)
  rw [show ((0 : Nat) : Int) = 0 from rfl] at ix0
  rw [show ((1 : Nat) : Int) = 1 from rfl] at ix1
  simp only [Nat.zero_add] at ix0 ix1
  have A1 : Hid (Fm w [(w.heap.size, C3, 29), (w.heap.size + 1, D, 40)] (((y5.setCell ⟨w.heap.size, 17, none⟩ (.int .u16 512)).setCell ⟨gM, 0, none⟩ (.int .u8 (B1 : Int))).setCell ⟨gM, 1, none⟩ (.int .u8 (B2 : Int))) ∧ GO w.heap.size (((y5.setCell ⟨w.heap.size, 17, none⟩ (.int .u16 512)).setCell ⟨gM, 0, none⟩ (.int .u8 (B1 : Int))).setCell ⟨gM, 1, none⟩ (.int .u8 (B2 : Int))) C3 { g with pc := 512, me := (g.me.set 0 b1).set 1 b2 } ∧ True) := by
    rw [← hBB.out.1, ← hBB.out.2]
    have F1 := K5.out.1.setCell 0 _ _ _ _ rfl 17 (.int .u16 512) hC3.out.symm
    have J1 := ((K5.out.2.1).offT (K5.out.1.bx 0 _ _ _ rfl) (by decide) (by decide) (fun q hq => heap_setCell_other y5 ⟨w.heap.size, 17, none⟩ q (.int .u16 512) hq)).setPC 512 (by decide)
    rw [show C2.setIfInBounds 17 (.int .u16 ((512 : Nat) : Int)) = C3 from hC3.out.symm] at J1
    obtain ⟨lb, ⟨cs1, x1⟩, _, _, J2⟩ := J1.setMe hM3.out 0 (by show 0 < g.me.length; rw [hml'.out]; decide)
    have F2 := F1.offU x1 lb boxT2 0 (.int .u8 (b1.toNat : Int))
    obtain ⟨_, ⟨cs2, x2⟩, _, _, J3⟩ := (J2 b1).setMe hM3.out 1 (by show 1 < (g.me.set 0 b1).length; rw [List.length_set, hml'.out]; decide)
    exact ⟨F2.offU x2 lb boxT2 1 _, J3 b2, trivial⟩
  go_upto_region 14 with (fail)
  generalize ((y5.setCell ⟨w.heap.size, 17, none⟩ (.int .u16 512)).setCell ⟨gM, 0, none⟩ (.int .u8 (B1 : Int))).setCell ⟨gM, 1, none⟩ (.int .u8 (B2 : Int)) = ya at A1 ⊢
  clear c22 c17 z17 d0 f0 d1 f1 hM xM lM ix0 ix1
  have c22a := (A1.out.1.bx 0 _ _ _ rfl).c 22 _ hM3.out
  have hla : Hid (((g.me.set 0 b1).set 1 b2).length = 3232) := by show _ = _; simp only [List.length_set]; exact hml'.out
  obtain ⟨lMa, ⟨csa, xa⟩, ⟨vza, dza⟩, fza, Ja⟩ := (A1.out.2.1).setMe hM3.out 2 (by show 2 < ((g.me.set 0 b1).set 1 b2).length; rw [hla.out]; decide)
  have dra := (A1.out.2.1).meAt hM3.out 0 (by show 0 < ((g.me.set 0 b1).set 1 b2).length; rw [hla.out]; decide)
  rw [show ((({ g with pc := 512, me := (g.me.set 0 b1).set 1 b2 } : Gm).me.getD 0 0).toNat : Int) = (B1 : Int) from by have h := hBB.out; have h0 := hml'.out; show ((((g.me.set 0 b1).set 1 b2).getD 0 0).toNat : Int) = _; rw [show ((g.me.set 0 b1).set 1 b2).getD 0 0 = b1 from by simp [List.getD, h0]]; omega] at dra
  have ixaa := fun v => idxB .i64 gM 0 3232 cM 0 v (by decide)
  have ixba := fun v => idxB .i64 gM 0 3232 cM 2 v (by decide)
  rw [show ((0 : Nat) : Int) = 0 from rfl] at ixaa
  rw [show ((2 : Nat) : Int) = 2 from rfl] at ixba
  simp only [Nat.zero_add] at ixaa ixba
  have A2' : Hid (∀ n, Fm w [(w.heap.size, C3, 29), (w.heap.size + 1, D, 40)] ((ya.drewN n).setCell ⟨gM, 2, none⟩ (.int .u8 (B1 : Int))) ∧ GO w.heap.size ((ya.drewN n).setCell ⟨gM, 2, none⟩ (.int .u8 (B1 : Int))) C3 { g with pc := 512, me := ((g.me.set 0 b1).set 1 b2).set 2 b1 } ∧ True) := by
    intro n
    rw [← hBB.out.1]
    have F := A1.out.1.below (below_drewN (n := n) (Below.refl _ _))
    have J := (A1.out.2.1).below (below_drewN (n := n) (Below.refl _ _))
    obtain ⟨lb, ⟨cs', x'⟩, _, _, J'⟩ := J.setMe hM3.out 2 (by show 2 < ((g.me.set 0 b1).set 1 b2).length; rw [hla.out]; decide)
    skip
    exact ⟨F.offU x' lb boxT2 2 _, J' b1, trivial⟩
  clear Ja xa lMa
  go_wp2
  refine region_class_tail 7 (fun y => ∃ n, y = ya.drewN n) (by kernel_rfl) (by kernel_rfl) ⟨1, rfl⟩ ?_
  dsimp only [List.take, List.drop]
  repeat (go_big_quiet_step (fail))
  refine wpQuiet_nil ?_
  rintro _ ⟨nqa, rfl⟩
  go_upto_region 15 with (fail)
  have A2 := A2'.out nqa
  generalize (ya.drewN nqa).setCell ⟨gM, 2, none⟩ (.int .u8 (B1 : Int)) = yb at A2 ⊢
  replace A2 : Hid _ := A2
  clear c22a dza fza dra A2'
  have c22b := (A2.out.1.bx 0 _ _ _ rfl).c 22 _ hM3.out
  have hlb : Hid ((((g.me.set 0 b1).set 1 b2).set 2 b1).length = 3232) := by show _ = _; simp only [List.length_set]; exact hml'.out
  obtain ⟨lMb, ⟨csb, xb⟩, ⟨vzb, dzb⟩, fzb, Jb⟩ := (A2.out.2.1).setMe hM3.out 3 (by show 3 < (((g.me.set 0 b1).set 1 b2).set 2 b1).length; rw [hlb.out]; decide)
  have drb := (A2.out.2.1).meAt hM3.out 1 (by show 1 < (((g.me.set 0 b1).set 1 b2).set 2 b1).length; rw [hlb.out]; decide)
  rw [show ((({ g with pc := 512, me := ((g.me.set 0 b1).set 1 b2).set 2 b1 } : Gm).me.getD 1 0).toNat : Int) = (B2 : Int) from by have h := hBB.out; have h0 := hml'.out; show (((((g.me.set 0 b1).set 1 b2).set 2 b1).getD 1 0).toNat : Int) = _; rw [show (((g.me.set 0 b1).set 1 b2).set 2 b1).getD 1 0 = b2 from by simp [List.getD, h0]]; omega] at drb
  have ixab := fun v => idxB .i64 gM 0 3232 cM 1 v (by decide)
  have ixbb := fun v => idxB .i64 gM 0 3232 cM 3 v (by decide)
  rw [show ((1 : Nat) : Int) = 1 from rfl] at ixab
  rw [show ((3 : Nat) : Int) = 3 from rfl] at ixbb
  simp only [Nat.zero_add] at ixab ixbb
  have A3' : Hid (∀ n, Fm w [(w.heap.size, C3, 29), (w.heap.size + 1, D, 40)] ((yb.drewN n).setCell ⟨gM, 3, none⟩ (.int .u8 (B2 : Int))) ∧ GO w.heap.size ((yb.drewN n).setCell ⟨gM, 3, none⟩ (.int .u8 (B2 : Int))) C3 G2 ∧ True) := by
    intro n
    rw [← hBB.out.2]
    have F := A2.out.1.below (below_drewN (n := n) (Below.refl _ _))
    have J := (A2.out.2.1).below (below_drewN (n := n) (Below.refl _ _))
    obtain ⟨lb, ⟨cs', x'⟩, _, _, J'⟩ := J.setMe hM3.out 3 (by show 3 < (((g.me.set 0 b1).set 1 b2).set 2 b1).length; rw [hlb.out]; decide)
    rw [hG2.out]
    exact ⟨F.offU x' lb boxT2 3 _, J' b2, trivial⟩
  clear Jb xb lMb
  go_wp2
  refine region_class_tail 7 (fun y => ∃ n, y = yb.drewN n) (by kernel_rfl) (by kernel_rfl) ⟨1, rfl⟩ ?_
  dsimp only [List.take, List.drop]
  repeat (go_big_quiet_step (fail))
  refine wpQuiet_nil ?_
  rintro _ ⟨nqb, rfl⟩
  go_upto_region 16 with (fail)
  have A3 := A3'.out nqb
  generalize (yb.drewN nqb).setCell ⟨gM, 3, none⟩ (.int .u8 (B2 : Int)) = y20 at A3 ⊢
  replace A3 : Hid _ := A3
  clear c22b dzb fzb drb A3'
  have K20 : Hid (Fm w [(w.heap.size, C3, 29), (w.heap.size + 1, D, 40)] y20 ∧ GO w.heap.size y20 C3 G2 ∧ True) := A3
  clear A3 A1 A2
  go_wp2_with (first
    | ((with_reducible refine at_st rtG y23.heap.size #[.int .u8 0, .int .u8 0, .int .u8 0, .int .u8 0, .int .u8 0, .int .u8 0, .int .u8 0, .int .u8 0, .int .u8 0, .int .u8 0, .int .u8 0, .int .u8 0, .int .u8 0, .int .u8 0, .int .u8 0, .int .u8 0, .int .u16 0, .int .u16 0, .slice none 0 0, .int .u8 0, .int .u8 0, .slice none 0 0, .slice none 0 0] C4 ?_ ?_ ?_ ?_ (.tmp 13) (.tmp 73) ?_ ?_ ?_ ?_ ?_); exact K24.out.1.bx 3 _ _ _ rfl; rfl; exact (K24.out.2.2.1).lies.size.1; exact (K24.out.2.2.1).lies.size.2.1; rfl; rfl; rfl; rfl; intro y25 H25; have K25 : Hid (Fm w [(w.heap.size, C3, 29), (w.heap.size + 1, D, 40), (y20.heap.size, #[.int .u8 0, .int .u16 0, .int .i64 (-1)], 50), (y23.heap.size, C4, 29)] y25 ∧ GO w.heap.size y25 C3 G2 ∧ GO w.heap.size y25 C4 s1 ∧ True) := ⟨K24.out.1.put 3 _ _ _ _ rfl H25.out, (K24.out.2.1).offT (K24.out.1.bx 3 _ _ _ rfl) (by decide) (by decide) H25.out.2.2, (K24.out.2.2.1).offT (K24.out.1.bx 3 _ _ _ rfl) (by decide) (by decide) H25.out.2.2, trivial⟩; clear H25 K24)
    | ((with_reducible refine gen_world (y23.alloc (.cells #[.int .u8 0, .int .u8 0, .int .u8 0, .int .u8 0, .int .u8 0, .int .u8 0, .int .u8 0, .int .u8 0, .int .u8 0, .int .u8 0, .int .u8 0, .int .u8 0, .int .u8 0, .int .u8 0, .int .u8 0, .int .u8 0, .int .u16 0, .int .u16 0, .slice none 0 0, .int .u8 0, .int .u8 0, .slice none 0 0, .slice none 0 0] 29)) (fun y => Fm w [(w.heap.size, C3, 29), (w.heap.size + 1, D, 40), (y20.heap.size, #[.int .u8 0, .int .u16 0, .int .i64 (-1)], 50), (y23.heap.size, #[.int .u8 0, .int .u8 0, .int .u8 0, .int .u8 0, .int .u8 0, .int .u8 0, .int .u8 0, .int .u8 0, .int .u8 0, .int .u8 0, .int .u8 0, .int .u8 0, .int .u8 0, .int .u8 0, .int .u8 0, .int .u8 0, .int .u16 0, .int .u16 0, .slice none 0 0, .int .u8 0, .int .u8 0, .slice none 0 0, .slice none 0 0], 29)] y ∧ GO w.heap.size y C3 G2 ∧ GO w.heap.size y C4 s1 ∧ True) ?_ ?_); (exact ⟨K23.out.1.new _ _, (K23.out.2.1).below (below1 y23 _), (K23.out.2.2.1).below (below1 y23 _), trivial⟩); intro y24 K24)
    | (go_at_call 22; refine (step_aw2 y22 C3 D G2 f (K22.out.2.1).lies (hf.out.below K22.out.1.low) hsG.out s1 o1 e1 hs1.out).mono ?_; rintro e y23 ⟨C4, rfl, J, H⟩; have K23 : Hid (Fm w [(w.heap.size, C3, 29), (w.heap.size + 1, D, 40), (y20.heap.size, #[.int .u8 0, .int .u16 0, .int .i64 (-1)], 50)] y23 ∧ GO w.heap.size y23 C3 G2 ∧ GO w.heap.size y23 C4 s1 ∧ True) := ⟨K22.out.1.below H, (K22.out.2.1).below H, J.weak K22.out.1.low.size, trivial⟩; clear H J)
    | ((with_reducible refine at_st rtFd y20.heap.size #[.int .u8 0, .int .u16 0, .int .i64 0] #[.int .u8 0, .int .u16 0, .int .i64 (-1)] ?_ ?_ ?_ ?_ (.tmp 12) (.tmp 67) ?_ ?_ ?_ ?_ ?_); exact K21.out.1.bx 2 _ _ _ rfl; rfl; rfl; exact dCs_one fd0; rfl; rfl; rfl; rfl; intro y22 H22; have K22 : Hid (Fm w [(w.heap.size, C3, 29), (w.heap.size + 1, D, 40), (y20.heap.size, #[.int .u8 0, .int .u16 0, .int .i64 (-1)], 50)] y22 ∧ GO w.heap.size y22 C3 G2 ∧ True) := ⟨K21.out.1.put 2 _ _ _ _ rfl H22.out, (K21.out.2.1).offT (K21.out.1.bx 2 _ _ _ rfl) (by decide) (by decide) H22.out.2.2, trivial⟩; clear H22 K21)
    | ((with_reducible refine gen_world (y20.alloc (.cells #[.int .u8 0, .int .u16 0, .int .i64 0] 50)) (fun y => Fm w [(w.heap.size, C3, 29), (w.heap.size + 1, D, 40), (y20.heap.size, #[.int .u8 0, .int .u16 0, .int .i64 0], 50)] y ∧ GO w.heap.size y C3 G2 ∧ True) ?_ ?_); (exact ⟨K20.out.1.new _ _, (K20.out.2.1).below (below1 y20 _), trivial⟩); intro y21 K21)
    | ((with_reducible refine at_bu #[(2, .const (.int .i64 (-1)))] [(2, .int .i64 (-1))] #[.int .u8 0, .int .u16 0, .int .i64 (-1)] ?_ ?_ ?_ builtD0 ?_); kernel_rfl; rfl; kernel_rfl)
    | ((with_reducible refine at_load rtG (w.heap.size) C3 ?_ ?_ (.tmp 3) ?_ ?_ ?_ ?_); (first | exact K22.out.1.bx 0 _ _ _ rfl); (first | exact (K22.out.2.1).lies.size.1); kernel_rfl; rfl; rfl)
    | ((with_reducible refine at_load rtFn (w.heap.size + 1) D ?_ ?_ (.tmp 4) ?_ ?_ ?_ ?_); (first | exact K22.out.1.bx 1 _ _ _ rfl); (first | exact gD.out); kernel_rfl; rfl; rfl)
    | ((with_reducible refine at_load rtFd (y20.heap.size) #[.int .u8 0, .int .u16 0, .int .i64 (-1)] ?_ ?_ (.tmp 12) ?_ ?_ ?_ ?_); (first | exact K22.out.1.bx 2 _ _ _ rfl); (first | rfl); kernel_rfl; rfl; rfl))
  go_ret
  exact ⟨rfl, K25.out.1.low⟩

theorem twice_out (w : World) (C D : Array Value) (g : Gm) (f : Fo) (a : Int) (hg : Hid (GL w C g)) (hf : Hid (FL w D f)) (ha : -9223372036854775808 ≤ a ∧ a ≤ 9223372036854775807) (hv : Hid (vasG g.st.length g.pg.length g.me.length f.by_.length = false)) (hm : Hid (g.may = true)) (hs : Hid (smaG g f)) (P X Y : Nat) (a1 a2 : Int) (hP : Hid ((if a < 0 then -(a + 1) else a) % 16 = (P : Int))) (wa1 : Int.tdiv a 16 = a1) (wa2 : Int.tdiv a 240 = a2) (ha1 : -9223372036854775808 ≤ a1 ∧ a1 ≤ 9223372036854775807) (ha2 : -9223372036854775808 ≤ a2 ∧ a2 ≤ 9223372036854775807) (hX : Hid ((if a1 < 0 then -(a1 + 1) else a1) % 15 = (X : Int))) (hY : Hid ((if a2 < 0 then -(a2 + 1) else a2) % 15 = (Y : Int))) (hP1 : P < 16) (hX1 : X < 15) (hY1 : Y < 15) (b1 b2 : UInt8) (hb1 : b1.toNat = 208 + X) (hb2 : b2.toNat = 16 * Y + P) (G2 : Gm) (hG2 : Hid (G2 = { g with pc := 512, me := (((g.me.set 0 b1).set 1 b2).set 2 b1).set 3 b2 })) (hsG : Hid (smaG G2 f)) (s1 : Gm) (o1 e1 : Nat) (hs1 : Hid (stepG G2 f fd0 = (s1, o1, e1))) (he : e1 = 0) (ho : o1 = 7) :
    Calls Try.prog 7 #[.agg C, .agg D, .int .i64 a] w fun e w' => e = .returned (.bool true) ∧ Below w.heap.size w w' := by
  have gC : Hid (C.size = 23) := hg.out.size.1
  have gD : Hid (D.size = 18) := hf.out.size
  have nst : Hid (g.st.length ≤ 4000000000 ∧ g.pg.length ≤ 4000000000 ∧ g.me.length ≤ 4000000000) := by have := hs.out; unfold smaG at this; exact ⟨by omega, by omega, by omega⟩
  have hml' : Hid (g.me.length = 3232) := (may_iff.1 hm.out).2.1
  have w1' : IntKind.i64.wrap (Int.tdiv a 16) = a1 := by rw [wa1, IntKind.wrap_i64]; omega
  have w2' : IntKind.i64.wrap (Int.tdiv a 240) = a2 := by rw [wa2, IntKind.wrap_i64]; omega
  have l1 : (P : Int) < 16 := by omega
  have l2 : (X : Int) < 15 := by omega
  have l3 : (Y : Int) < 15 := by omega
  obtain ⟨B1, hB1⟩ : ∃ x, b1.toNat = x := ⟨_, rfl⟩
  obtain ⟨B2, hB2⟩ : ∃ x, b2.toNat = x := ⟨_, rfl⟩
  have w7 : (208 : Int) + (X : Int) = (B1 : Int) := by omega
  have w7' : IntKind.u8.wrap ((208 : Int) + (X : Int)) = (B1 : Int) := by rw [IntKind.wrap_u8]; omega
  obtain ⟨Z, hZ⟩ : ∃ x, 16 * Y = x := ⟨_, rfl⟩
  have w8 : (16 : Int) * (Y : Int) = (Z : Int) := by omega
  have w9 : (Z : Int) + (P : Int) = (B2 : Int) := by omega
  have l4 : (Z : Int) < 256 := by omega
  have l5 : (B1 : Int) < 256 := by omega
  have l6 : (B2 : Int) < 256 := by omega
  have hBB : Hid (b1.toNat = B1 ∧ b2.toNat = B2) := ⟨hB1, hB2⟩
  clear hP1 hX1 hY1 hb1 hb2 hB1 hB2 hZ
  have q1 : ((e1 : Int) != 0) = false := by simp; omega
  have q2 : ((o1 : Int) != 1) = true := by simp; omega
  have q3 : ((o1 : Int) == 7) = true := by simp; omega
  have q4 : ((e1 : Int) == 1) = false := by simp; omega
  clear he ho
  go_enter Try.func7, Try.ntmps7
  go_upto_region 11 with (first
    | ((with_reducible refine at_st rtG (w.heap.size) C C2 ?_ ?_ ?_ ?_ (.tmp 3) (.tmp 37) ?_ ?_ ?_ ?_ ?_); exact K4.out.1.bx 0 _ _ _ rfl; exact gC.out; exact (K4.out.2.1).lies.size.1; exact (K4.out.2.1).lies.size.2.1; rfl; rfl; rfl; rfl; intro y5 H5; have K5 : Hid (Fm w [(w.heap.size, C2, 29), (w.heap.size + 1, D, 40)] y5 ∧ GO w.heap.size y5 C2 g ∧ True) := ⟨K4.out.1.put 0 _ _ _ _ rfl H5.out, (K4.out.2.1).offT (K4.out.1.bx 0 _ _ _ rfl) (by decide) (by decide) H5.out.2.2, trivial⟩; clear H5)
    | (go_at_call 25; refine (copied_any y3 C g (hg.out.below K3.out.1.low) nst.out.1 nst.out.2.1 nst.out.2.2).mono ?_; rintro e y4 ⟨C2, rfl, H⟩; have K4 : Hid (Fm w [(w.heap.size, C, 29), (w.heap.size + 1, D, 40)] y4 ∧ GO w.heap.size y4 C2 g ∧ True) := ⟨K3.out.1.below H.out.2, H.out.1.weak K3.out.1.low.size, trivial⟩; clear H)
    | (go_at_call 24; with_reducible refine (pick_any y3 a2 15 ha2 (by decide)).mono ?_; rintro e yp ⟨rfl, ep⟩; replace ep := ep.symm; subst ep; rw [hY.out])
    | (go_at_call 24; with_reducible refine (pick_any y3 a1 15 ha1 (by decide)).mono ?_; rintro e yp ⟨rfl, ep⟩; replace ep := ep.symm; subst ep; rw [hX.out])
    | (go_at_call 24; with_reducible refine (pick_any y3 a 16 ha (by decide)).mono ?_; rintro e yp ⟨rfl, ep⟩; replace ep := ep.symm; subst ep; rw [hP.out])
    | (go_at_call 20; refine (rcheck_gl y2 C g (hg.out.below K2.out.1.low)).mono ?_; rintro e y3 ⟨rfl, H⟩; have K3 : Hid (Fm w [(w.heap.size, C, 29), (w.heap.size + 1, D, 40)] y3 ∧ True) := ⟨K2.out.1.below H, trivial⟩; rw [hm.out]; clear H)
    | (go_at_call 15; refine (vast_gl y1 C D g f (hg.out.below K1.out.1.low) (hf.out.below K1.out.1.low)).mono ?_; rintro e y2 ⟨rfl, H⟩; have K2 : Hid (Fm w [(w.heap.size, C, 29), (w.heap.size + 1, D, 40)] y2 ∧ True) := ⟨K1.out.1.below H, trivial⟩; rw [hv.out]; clear H)
    | (go_at_call 8; refine (awake_any y0).mono ?_; rintro e y1 ⟨rfl, H⟩; have K1 : Hid (Fm w [(w.heap.size, C, 29), (w.heap.size + 1, D, 40)] y1 ∧ True) := ⟨K0.out.1.below H, trivial⟩; clear H)
    | ((with_reducible refine gen_world ((w.alloc (.cells C 29)).alloc (.cells D 40)) (fun y => Fm w [(w.heap.size, C, 29), (w.heap.size + 1, D, 40)] y ∧ True) ?_ ?_); (exact ⟨Fm.two w _ _ _ _ , trivial⟩); intro y0 K0)
    | ((with_reducible refine at_load rtG (w.heap.size) C ?_ ?_ (.tmp 3) ?_ ?_ ?_ ?_); (first | exact K3.out.1.bx 0 _ _ _ rfl | exact K2.out.1.bx 0 _ _ _ rfl | exact K1.out.1.bx 0 _ _ _ rfl); (first | exact gC.out | exact (K3.out.2.1).lies.size.1 | exact (K2.out.2.1).lies.size.1 | exact (K1.out.2.1).lies.size.1); kernel_rfl; rfl; rfl)
    | ((with_reducible refine at_load rtFn (w.heap.size + 1) D ?_ ?_ (.tmp 4) ?_ ?_ ?_ ?_); (first | exact K1.out.1.bx 1 _ _ _ rfl); (first | exact gD.out); kernel_rfl; rfl; rfl))
  obtain ⟨gM, cM, hM⟩ := (K5.out.2.1).memC (by rw [hml'.out]; decide)
  rw [hml'.out] at hM
  have c22 := (K5.out.1.bx 0 _ _ _ rfl).c 22 _ hM
  have c17 := (K5.out.1.bx 0 _ _ _ rfl).c 17 _ ((K5.out.2.1).cells).choose_spec.choose_spec.choose_spec.choose_spec.1
  have z17 := (K5.out.1.bx 0 _ _ _ rfl).fz 17
  obtain ⟨lM, ⟨csM, xM⟩, ⟨v0, d0⟩, f0, _⟩ := (K5.out.2.1).setMe hM 0 (by rw [hml'.out]; decide)
  obtain ⟨_, _, ⟨v1, d1⟩, f1, _⟩ := (K5.out.2.1).setMe hM 1 (by rw [hml'.out]; decide)
  obtain ⟨C3, hC3⟩ : ∃ x, Hid (x = C2.setIfInBounds 17 (.int .u16 512)) := ⟨_, (rfl : C2.setIfInBounds 17 (.int .u16 512) = _)⟩
  have hM3 : Hid (C3[22]? = some (.slice (some ⟨gM, 0, none⟩) 3232 cM)) := by rw [hC3.out]; show _ = _; rw [Array.getElem?_setIfInBounds_ne (by decide)]; exact hM
  have ix0 := fun v => idxB .i64 gM 0 3232 cM 0 v (by decide)
  have ix1 := fun v => idxB .i64 gM 0 3232 cM 1 v (by decide)
  rw [show ((0 : Nat) : Int) = 0 from rfl] at ix0
  rw [show ((1 : Nat) : Int) = 1 from rfl] at ix1
  simp only [Nat.zero_add] at ix0 ix1
  have A1 : Hid (Fm w [(w.heap.size, C3, 29), (w.heap.size + 1, D, 40)] (((y5.setCell ⟨w.heap.size, 17, none⟩ (.int .u16 512)).setCell ⟨gM, 0, none⟩ (.int .u8 (B1 : Int))).setCell ⟨gM, 1, none⟩ (.int .u8 (B2 : Int))) ∧ GO w.heap.size (((y5.setCell ⟨w.heap.size, 17, none⟩ (.int .u16 512)).setCell ⟨gM, 0, none⟩ (.int .u8 (B1 : Int))).setCell ⟨gM, 1, none⟩ (.int .u8 (B2 : Int))) C3 { g with pc := 512, me := (g.me.set 0 b1).set 1 b2 } ∧ True) := by
    rw [← hBB.out.1, ← hBB.out.2]
    have F1 := K5.out.1.setCell 0 _ _ _ _ rfl 17 (.int .u16 512) hC3.out.symm
    have J1 := ((K5.out.2.1).offT (K5.out.1.bx 0 _ _ _ rfl) (by decide) (by decide) (fun q hq => heap_setCell_other y5 ⟨w.heap.size, 17, none⟩ q (.int .u16 512) hq)).setPC 512 (by decide)
    rw [show C2.setIfInBounds 17 (.int .u16 ((512 : Nat) : Int)) = C3 from hC3.out.symm] at J1
    obtain ⟨lb, ⟨cs1, x1⟩, _, _, J2⟩ := J1.setMe hM3.out 0 (by show 0 < g.me.length; rw [hml'.out]; decide)
    have F2 := F1.offU x1 lb boxT2 0 (.int .u8 (b1.toNat : Int))
    obtain ⟨_, ⟨cs2, x2⟩, _, _, J3⟩ := (J2 b1).setMe hM3.out 1 (by show 1 < (g.me.set 0 b1).length; rw [List.length_set, hml'.out]; decide)
    exact ⟨F2.offU x2 lb boxT2 1 _, J3 b2, trivial⟩
  go_upto_region 14 with (fail)
  generalize ((y5.setCell ⟨w.heap.size, 17, none⟩ (.int .u16 512)).setCell ⟨gM, 0, none⟩ (.int .u8 (B1 : Int))).setCell ⟨gM, 1, none⟩ (.int .u8 (B2 : Int)) = ya at A1 ⊢
  clear c22 c17 z17 d0 f0 d1 f1 hM xM lM ix0 ix1
  have c22a := (A1.out.1.bx 0 _ _ _ rfl).c 22 _ hM3.out
  have hla : Hid (((g.me.set 0 b1).set 1 b2).length = 3232) := by show _ = _; simp only [List.length_set]; exact hml'.out
  obtain ⟨lMa, ⟨csa, xa⟩, ⟨vza, dza⟩, fza, Ja⟩ := (A1.out.2.1).setMe hM3.out 2 (by show 2 < ((g.me.set 0 b1).set 1 b2).length; rw [hla.out]; decide)
  have dra := (A1.out.2.1).meAt hM3.out 0 (by show 0 < ((g.me.set 0 b1).set 1 b2).length; rw [hla.out]; decide)
  rw [show ((({ g with pc := 512, me := (g.me.set 0 b1).set 1 b2 } : Gm).me.getD 0 0).toNat : Int) = (B1 : Int) from by have h := hBB.out; have h0 := hml'.out; show ((((g.me.set 0 b1).set 1 b2).getD 0 0).toNat : Int) = _; rw [show ((g.me.set 0 b1).set 1 b2).getD 0 0 = b1 from by simp [List.getD, h0]]; omega] at dra
  have ixaa := fun v => idxB .i64 gM 0 3232 cM 0 v (by decide)
  have ixba := fun v => idxB .i64 gM 0 3232 cM 2 v (by decide)
  rw [show ((0 : Nat) : Int) = 0 from rfl] at ixaa
  rw [show ((2 : Nat) : Int) = 2 from rfl] at ixba
  simp only [Nat.zero_add] at ixaa ixba
  have A2' : Hid (∀ n, Fm w [(w.heap.size, C3, 29), (w.heap.size + 1, D, 40)] ((ya.drewN n).setCell ⟨gM, 2, none⟩ (.int .u8 (B1 : Int))) ∧ GO w.heap.size ((ya.drewN n).setCell ⟨gM, 2, none⟩ (.int .u8 (B1 : Int))) C3 { g with pc := 512, me := ((g.me.set 0 b1).set 1 b2).set 2 b1 } ∧ True) := by
    intro n
    rw [← hBB.out.1]
    have F := A1.out.1.below (below_drewN (n := n) (Below.refl _ _))
    have J := (A1.out.2.1).below (below_drewN (n := n) (Below.refl _ _))
    obtain ⟨lb, ⟨cs', x'⟩, _, _, J'⟩ := J.setMe hM3.out 2 (by show 2 < ((g.me.set 0 b1).set 1 b2).length; rw [hla.out]; decide)
    skip
    exact ⟨F.offU x' lb boxT2 2 _, J' b1, trivial⟩
  clear Ja xa lMa
  go_wp2
  refine region_class_tail 7 (fun y => ∃ n, y = ya.drewN n) (by kernel_rfl) (by kernel_rfl) ⟨1, rfl⟩ ?_
  dsimp only [List.take, List.drop]
  repeat (go_big_quiet_step (fail))
  refine wpQuiet_nil ?_
  rintro _ ⟨nqa, rfl⟩
  go_upto_region 15 with (fail)
  have A2 := A2'.out nqa
  generalize (ya.drewN nqa).setCell ⟨gM, 2, none⟩ (.int .u8 (B1 : Int)) = yb at A2 ⊢
  replace A2 : Hid _ := A2
  clear c22a dza fza dra A2'
  have c22b := (A2.out.1.bx 0 _ _ _ rfl).c 22 _ hM3.out
  have hlb : Hid ((((g.me.set 0 b1).set 1 b2).set 2 b1).length = 3232) := by show _ = _; simp only [List.length_set]; exact hml'.out
  obtain ⟨lMb, ⟨csb, xb⟩, ⟨vzb, dzb⟩, fzb, Jb⟩ := (A2.out.2.1).setMe hM3.out 3 (by show 3 < (((g.me.set 0 b1).set 1 b2).set 2 b1).length; rw [hlb.out]; decide)
  have drb := (A2.out.2.1).meAt hM3.out 1 (by show 1 < (((g.me.set 0 b1).set 1 b2).set 2 b1).length; rw [hlb.out]; decide)
  rw [show ((({ g with pc := 512, me := ((g.me.set 0 b1).set 1 b2).set 2 b1 } : Gm).me.getD 1 0).toNat : Int) = (B2 : Int) from by have h := hBB.out; have h0 := hml'.out; show (((((g.me.set 0 b1).set 1 b2).set 2 b1).getD 1 0).toNat : Int) = _; rw [show (((g.me.set 0 b1).set 1 b2).set 2 b1).getD 1 0 = b2 from by simp [List.getD, h0]]; omega] at drb
  have ixab := fun v => idxB .i64 gM 0 3232 cM 1 v (by decide)
  have ixbb := fun v => idxB .i64 gM 0 3232 cM 3 v (by decide)
  rw [show ((1 : Nat) : Int) = 1 from rfl] at ixab
  rw [show ((3 : Nat) : Int) = 3 from rfl] at ixbb
  simp only [Nat.zero_add] at ixab ixbb
  have A3' : Hid (∀ n, Fm w [(w.heap.size, C3, 29), (w.heap.size + 1, D, 40)] ((yb.drewN n).setCell ⟨gM, 3, none⟩ (.int .u8 (B2 : Int))) ∧ GO w.heap.size ((yb.drewN n).setCell ⟨gM, 3, none⟩ (.int .u8 (B2 : Int))) C3 G2 ∧ True) := by
    intro n
    rw [← hBB.out.2]
    have F := A2.out.1.below (below_drewN (n := n) (Below.refl _ _))
    have J := (A2.out.2.1).below (below_drewN (n := n) (Below.refl _ _))
    obtain ⟨lb, ⟨cs', x'⟩, _, _, J'⟩ := J.setMe hM3.out 3 (by show 3 < (((g.me.set 0 b1).set 1 b2).set 2 b1).length; rw [hlb.out]; decide)
    rw [hG2.out]
    exact ⟨F.offU x' lb boxT2 3 _, J' b2, trivial⟩
  clear Jb xb lMb
  go_wp2
  refine region_class_tail 7 (fun y => ∃ n, y = yb.drewN n) (by kernel_rfl) (by kernel_rfl) ⟨1, rfl⟩ ?_
  dsimp only [List.take, List.drop]
  repeat (go_big_quiet_step (fail))
  refine wpQuiet_nil ?_
  rintro _ ⟨nqb, rfl⟩
  go_upto_region 16 with (fail)
  have A3 := A3'.out nqb
  generalize (yb.drewN nqb).setCell ⟨gM, 3, none⟩ (.int .u8 (B2 : Int)) = y20 at A3 ⊢
  replace A3 : Hid _ := A3
  clear c22b dzb fzb drb A3'
  have K20 : Hid (Fm w [(w.heap.size, C3, 29), (w.heap.size + 1, D, 40)] y20 ∧ GO w.heap.size y20 C3 G2 ∧ True) := A3
  clear A3 A1 A2
  go_wp2_with (first
    | ((with_reducible refine at_st rtG y23.heap.size #[.int .u8 0, .int .u8 0, .int .u8 0, .int .u8 0, .int .u8 0, .int .u8 0, .int .u8 0, .int .u8 0, .int .u8 0, .int .u8 0, .int .u8 0, .int .u8 0, .int .u8 0, .int .u8 0, .int .u8 0, .int .u8 0, .int .u16 0, .int .u16 0, .slice none 0 0, .int .u8 0, .int .u8 0, .slice none 0 0, .slice none 0 0] C4 ?_ ?_ ?_ ?_ (.tmp 13) (.tmp 73) ?_ ?_ ?_ ?_ ?_); exact K24.out.1.bx 3 _ _ _ rfl; rfl; exact (K24.out.2.2.1).lies.size.1; exact (K24.out.2.2.1).lies.size.2.1; rfl; rfl; rfl; rfl; intro y25 H25; have K25 : Hid (Fm w [(w.heap.size, C3, 29), (w.heap.size + 1, D, 40), (y20.heap.size, #[.int .u8 0, .int .u16 0, .int .i64 (-1)], 50), (y23.heap.size, C4, 29)] y25 ∧ GO w.heap.size y25 C3 G2 ∧ GO w.heap.size y25 C4 s1 ∧ True) := ⟨K24.out.1.put 3 _ _ _ _ rfl H25.out, (K24.out.2.1).offT (K24.out.1.bx 3 _ _ _ rfl) (by decide) (by decide) H25.out.2.2, (K24.out.2.2.1).offT (K24.out.1.bx 3 _ _ _ rfl) (by decide) (by decide) H25.out.2.2, trivial⟩; clear H25 K24)
    | ((with_reducible refine gen_world (y23.alloc (.cells #[.int .u8 0, .int .u8 0, .int .u8 0, .int .u8 0, .int .u8 0, .int .u8 0, .int .u8 0, .int .u8 0, .int .u8 0, .int .u8 0, .int .u8 0, .int .u8 0, .int .u8 0, .int .u8 0, .int .u8 0, .int .u8 0, .int .u16 0, .int .u16 0, .slice none 0 0, .int .u8 0, .int .u8 0, .slice none 0 0, .slice none 0 0] 29)) (fun y => Fm w [(w.heap.size, C3, 29), (w.heap.size + 1, D, 40), (y20.heap.size, #[.int .u8 0, .int .u16 0, .int .i64 (-1)], 50), (y23.heap.size, #[.int .u8 0, .int .u8 0, .int .u8 0, .int .u8 0, .int .u8 0, .int .u8 0, .int .u8 0, .int .u8 0, .int .u8 0, .int .u8 0, .int .u8 0, .int .u8 0, .int .u8 0, .int .u8 0, .int .u8 0, .int .u8 0, .int .u16 0, .int .u16 0, .slice none 0 0, .int .u8 0, .int .u8 0, .slice none 0 0, .slice none 0 0], 29)] y ∧ GO w.heap.size y C3 G2 ∧ GO w.heap.size y C4 s1 ∧ True) ?_ ?_); (exact ⟨K23.out.1.new _ _, (K23.out.2.1).below (below1 y23 _), (K23.out.2.2.1).below (below1 y23 _), trivial⟩); intro y24 K24)
    | (go_at_call 22; refine (step_aw2 y22 C3 D G2 f (K22.out.2.1).lies (hf.out.below K22.out.1.low) hsG.out s1 o1 e1 hs1.out).mono ?_; rintro e y23 ⟨C4, rfl, J, H⟩; have K23 : Hid (Fm w [(w.heap.size, C3, 29), (w.heap.size + 1, D, 40), (y20.heap.size, #[.int .u8 0, .int .u16 0, .int .i64 (-1)], 50)] y23 ∧ GO w.heap.size y23 C3 G2 ∧ GO w.heap.size y23 C4 s1 ∧ True) := ⟨K22.out.1.below H, (K22.out.2.1).below H, J.weak K22.out.1.low.size, trivial⟩; clear H J)
    | ((with_reducible refine at_st rtFd y20.heap.size #[.int .u8 0, .int .u16 0, .int .i64 0] #[.int .u8 0, .int .u16 0, .int .i64 (-1)] ?_ ?_ ?_ ?_ (.tmp 12) (.tmp 67) ?_ ?_ ?_ ?_ ?_); exact K21.out.1.bx 2 _ _ _ rfl; rfl; rfl; exact dCs_one fd0; rfl; rfl; rfl; rfl; intro y22 H22; have K22 : Hid (Fm w [(w.heap.size, C3, 29), (w.heap.size + 1, D, 40), (y20.heap.size, #[.int .u8 0, .int .u16 0, .int .i64 (-1)], 50)] y22 ∧ GO w.heap.size y22 C3 G2 ∧ True) := ⟨K21.out.1.put 2 _ _ _ _ rfl H22.out, (K21.out.2.1).offT (K21.out.1.bx 2 _ _ _ rfl) (by decide) (by decide) H22.out.2.2, trivial⟩; clear H22 K21)
    | ((with_reducible refine gen_world (y20.alloc (.cells #[.int .u8 0, .int .u16 0, .int .i64 0] 50)) (fun y => Fm w [(w.heap.size, C3, 29), (w.heap.size + 1, D, 40), (y20.heap.size, #[.int .u8 0, .int .u16 0, .int .i64 0], 50)] y ∧ GO w.heap.size y C3 G2 ∧ True) ?_ ?_); (exact ⟨K20.out.1.new _ _, (K20.out.2.1).below (below1 y20 _), trivial⟩); intro y21 K21)
    | ((with_reducible refine at_bu #[(2, .const (.int .i64 (-1)))] [(2, .int .i64 (-1))] #[.int .u8 0, .int .u16 0, .int .i64 (-1)] ?_ ?_ ?_ builtD0 ?_); kernel_rfl; rfl; kernel_rfl)
    | ((with_reducible refine at_load rtG (w.heap.size) C3 ?_ ?_ (.tmp 3) ?_ ?_ ?_ ?_); (first | exact K22.out.1.bx 0 _ _ _ rfl); (first | exact (K22.out.2.1).lies.size.1); kernel_rfl; rfl; rfl)
    | ((with_reducible refine at_load rtFn (w.heap.size + 1) D ?_ ?_ (.tmp 4) ?_ ?_ ?_ ?_); (first | exact K22.out.1.bx 1 _ _ _ rfl); (first | exact gD.out); kernel_rfl; rfl; rfl)
    | ((with_reducible refine at_load rtFd (y20.heap.size) #[.int .u8 0, .int .u16 0, .int .i64 (-1)] ?_ ?_ (.tmp 12) ?_ ?_ ?_ ?_); (first | exact K22.out.1.bx 2 _ _ _ rfl); (first | rfl); kernel_rfl; rfl; rfl))
  go_ret
  exact ⟨rfl, K25.out.1.low⟩

theorem twice_00 (w : World) (C D : Array Value) (g : Gm) (f : Fo) (a : Int) (hg : Hid (GL w C g)) (hf : Hid (FL w D f)) (ha : -9223372036854775808 ≤ a ∧ a ≤ 9223372036854775807) (hv : Hid (vasG g.st.length g.pg.length g.me.length f.by_.length = false)) (hm : Hid (g.may = true)) (hs : Hid (smaG g f)) (P X Y : Nat) (a1 a2 : Int) (hP : Hid ((if a < 0 then -(a + 1) else a) % 16 = (P : Int))) (wa1 : Int.tdiv a 16 = a1) (wa2 : Int.tdiv a 240 = a2) (ha1 : -9223372036854775808 ≤ a1 ∧ a1 ≤ 9223372036854775807) (ha2 : -9223372036854775808 ≤ a2 ∧ a2 ≤ 9223372036854775807) (hX : Hid ((if a1 < 0 then -(a1 + 1) else a1) % 15 = (X : Int))) (hY : Hid ((if a2 < 0 then -(a2 + 1) else a2) % 15 = (Y : Int))) (hP1 : P < 16) (hX1 : X < 15) (hY1 : Y < 15) (b1 b2 : UInt8) (hb1 : b1.toNat = 208 + X) (hb2 : b2.toNat = 16 * Y + P) (G2 : Gm) (hG2 : Hid (G2 = { g with pc := 512, me := (((g.me.set 0 b1).set 1 b2).set 2 b1).set 3 b2 })) (hsG : Hid (smaG G2 f)) (s1 : Gm) (o1 e1 : Nat) (hs1 : Hid (stepG G2 f fd0 = (s1, o1, e1))) (he : e1 = 0) (ho : o1 = 1) (hsS : Hid (smaG s1 f)) (s2 : Gm) (o2 e2 : Nat) (hs2 : Hid (stepG s1 f fd0 = (s2, o2, e2))) (ho2 : o2 = 1) (hva : Hid ((s1.v.getD 15 0).toNat = 0)) (hvb : Hid ((s2.v.getD 15 0).toNat = 0)) (X1 X2 : ByteArray) (xg : Hid (sB G2.pg = X2)) (xa : Hid (sB s1.pg = X2)) (xb : Hid (sB s2.pg = X2)) :
    Calls Try.prog 7 #[.agg C, .agg D, .int .i64 a] w fun e w' => e = .returned (.bool true) ∧ Below w.heap.size w w' := by
  have gC : Hid (C.size = 23) := hg.out.size.1
  have gD : Hid (D.size = 18) := hf.out.size
  have nst : Hid (g.st.length ≤ 4000000000 ∧ g.pg.length ≤ 4000000000 ∧ g.me.length ≤ 4000000000) := by have := hs.out; unfold smaG at this; exact ⟨by omega, by omega, by omega⟩
  have hml' : Hid (g.me.length = 3232) := (may_iff.1 hm.out).2.1
  have w1' : IntKind.i64.wrap (Int.tdiv a 16) = a1 := by rw [wa1, IntKind.wrap_i64]; omega
  have w2' : IntKind.i64.wrap (Int.tdiv a 240) = a2 := by rw [wa2, IntKind.wrap_i64]; omega
  have l1 : (P : Int) < 16 := by omega
  have l2 : (X : Int) < 15 := by omega
  have l3 : (Y : Int) < 15 := by omega
  obtain ⟨B1, hB1⟩ : ∃ x, b1.toNat = x := ⟨_, rfl⟩
  obtain ⟨B2, hB2⟩ : ∃ x, b2.toNat = x := ⟨_, rfl⟩
  have w7 : (208 : Int) + (X : Int) = (B1 : Int) := by omega
  have w7' : IntKind.u8.wrap ((208 : Int) + (X : Int)) = (B1 : Int) := by rw [IntKind.wrap_u8]; omega
  obtain ⟨Z, hZ⟩ : ∃ x, 16 * Y = x := ⟨_, rfl⟩
  have w8 : (16 : Int) * (Y : Int) = (Z : Int) := by omega
  have w9 : (Z : Int) + (P : Int) = (B2 : Int) := by omega
  have l4 : (Z : Int) < 256 := by omega
  have l5 : (B1 : Int) < 256 := by omega
  have l6 : (B2 : Int) < 256 := by omega
  have hBB : Hid (b1.toNat = B1 ∧ b2.toNat = B2) := ⟨hB1, hB2⟩
  clear hP1 hX1 hY1 hb1 hb2 hB1 hB2 hZ
  have q1 : ((e1 : Int) != 0) = false := by simp; omega
  have q2 : ((o1 : Int) != 1) = false := by simp; omega
  have q3 : ((o2 : Int) == 1) = true := by simp; omega
  have q4 : (X2.toList == X2.toList) = true := by simp
  clear he ho ho2
  go_enter Try.func7, Try.ntmps7
  go_upto_region 11 with (first
    | ((with_reducible refine at_st rtG (w.heap.size) C C2 ?_ ?_ ?_ ?_ (.tmp 3) (.tmp 37) ?_ ?_ ?_ ?_ ?_); exact K4.out.1.bx 0 _ _ _ rfl; exact gC.out; exact (K4.out.2.1).lies.size.1; exact (K4.out.2.1).lies.size.2.1; rfl; rfl; rfl; rfl; intro y5 H5; have K5 : Hid (Fm w [(w.heap.size, C2, 29), (w.heap.size + 1, D, 40)] y5 ∧ GO w.heap.size y5 C2 g ∧ True) := ⟨K4.out.1.put 0 _ _ _ _ rfl H5.out, (K4.out.2.1).offT (K4.out.1.bx 0 _ _ _ rfl) (by decide) (by decide) H5.out.2.2, trivial⟩; clear H5)
    | (go_at_call 25; refine (copied_any y3 C g (hg.out.below K3.out.1.low) nst.out.1 nst.out.2.1 nst.out.2.2).mono ?_; rintro e y4 ⟨C2, rfl, H⟩; have K4 : Hid (Fm w [(w.heap.size, C, 29), (w.heap.size + 1, D, 40)] y4 ∧ GO w.heap.size y4 C2 g ∧ True) := ⟨K3.out.1.below H.out.2, H.out.1.weak K3.out.1.low.size, trivial⟩; clear H)
    | (go_at_call 24; with_reducible refine (pick_any y3 a2 15 ha2 (by decide)).mono ?_; rintro e yp ⟨rfl, ep⟩; replace ep := ep.symm; subst ep; rw [hY.out])
    | (go_at_call 24; with_reducible refine (pick_any y3 a1 15 ha1 (by decide)).mono ?_; rintro e yp ⟨rfl, ep⟩; replace ep := ep.symm; subst ep; rw [hX.out])
    | (go_at_call 24; with_reducible refine (pick_any y3 a 16 ha (by decide)).mono ?_; rintro e yp ⟨rfl, ep⟩; replace ep := ep.symm; subst ep; rw [hP.out])
    | (go_at_call 20; refine (rcheck_gl y2 C g (hg.out.below K2.out.1.low)).mono ?_; rintro e y3 ⟨rfl, H⟩; have K3 : Hid (Fm w [(w.heap.size, C, 29), (w.heap.size + 1, D, 40)] y3 ∧ True) := ⟨K2.out.1.below H, trivial⟩; rw [hm.out]; clear H)
    | (go_at_call 15; refine (vast_gl y1 C D g f (hg.out.below K1.out.1.low) (hf.out.below K1.out.1.low)).mono ?_; rintro e y2 ⟨rfl, H⟩; have K2 : Hid (Fm w [(w.heap.size, C, 29), (w.heap.size + 1, D, 40)] y2 ∧ True) := ⟨K1.out.1.below H, trivial⟩; rw [hv.out]; clear H)
    | (go_at_call 8; refine (awake_any y0).mono ?_; rintro e y1 ⟨rfl, H⟩; have K1 : Hid (Fm w [(w.heap.size, C, 29), (w.heap.size + 1, D, 40)] y1 ∧ True) := ⟨K0.out.1.below H, trivial⟩; clear H)
    | ((with_reducible refine gen_world ((w.alloc (.cells C 29)).alloc (.cells D 40)) (fun y => Fm w [(w.heap.size, C, 29), (w.heap.size + 1, D, 40)] y ∧ True) ?_ ?_); (exact ⟨Fm.two w _ _ _ _ , trivial⟩); intro y0 K0)
    | ((with_reducible refine at_load rtG (w.heap.size) C ?_ ?_ (.tmp 3) ?_ ?_ ?_ ?_); (first | exact K3.out.1.bx 0 _ _ _ rfl | exact K2.out.1.bx 0 _ _ _ rfl | exact K1.out.1.bx 0 _ _ _ rfl); (first | exact gC.out | exact (K3.out.2.1).lies.size.1 | exact (K2.out.2.1).lies.size.1 | exact (K1.out.2.1).lies.size.1); kernel_rfl; rfl; rfl)
    | ((with_reducible refine at_load rtFn (w.heap.size + 1) D ?_ ?_ (.tmp 4) ?_ ?_ ?_ ?_); (first | exact K1.out.1.bx 1 _ _ _ rfl); (first | exact gD.out); kernel_rfl; rfl; rfl))
  obtain ⟨gM, cM, hM⟩ := (K5.out.2.1).memC (by rw [hml'.out]; decide)
  rw [hml'.out] at hM
  have c22 := (K5.out.1.bx 0 _ _ _ rfl).c 22 _ hM
  have c17 := (K5.out.1.bx 0 _ _ _ rfl).c 17 _ ((K5.out.2.1).cells).choose_spec.choose_spec.choose_spec.choose_spec.1
  have z17 := (K5.out.1.bx 0 _ _ _ rfl).fz 17
  obtain ⟨lM, ⟨csM, xM⟩, ⟨v0, d0⟩, f0, _⟩ := (K5.out.2.1).setMe hM 0 (by rw [hml'.out]; decide)
  obtain ⟨_, _, ⟨v1, d1⟩, f1, _⟩ := (K5.out.2.1).setMe hM 1 (by rw [hml'.out]; decide)
  obtain ⟨C3, hC3⟩ : ∃ x, Hid (x = C2.setIfInBounds 17 (.int .u16 512)) := ⟨_, (rfl : C2.setIfInBounds 17 (.int .u16 512) = _)⟩
  have hM3 : Hid (C3[22]? = some (.slice (some ⟨gM, 0, none⟩) 3232 cM)) := by rw [hC3.out]; show _ = _; rw [Array.getElem?_setIfInBounds_ne (by decide)]; exact hM
  have ix0 := fun v => idxB .i64 gM 0 3232 cM 0 v (by decide)
  have ix1 := fun v => idxB .i64 gM 0 3232 cM 1 v (by decide)
  rw [show ((0 : Nat) : Int) = 0 from rfl] at ix0
  rw [show ((1 : Nat) : Int) = 1 from rfl] at ix1
  simp only [Nat.zero_add] at ix0 ix1
  have A1 : Hid (Fm w [(w.heap.size, C3, 29), (w.heap.size + 1, D, 40)] (((y5.setCell ⟨w.heap.size, 17, none⟩ (.int .u16 512)).setCell ⟨gM, 0, none⟩ (.int .u8 (B1 : Int))).setCell ⟨gM, 1, none⟩ (.int .u8 (B2 : Int))) ∧ GO w.heap.size (((y5.setCell ⟨w.heap.size, 17, none⟩ (.int .u16 512)).setCell ⟨gM, 0, none⟩ (.int .u8 (B1 : Int))).setCell ⟨gM, 1, none⟩ (.int .u8 (B2 : Int))) C3 { g with pc := 512, me := (g.me.set 0 b1).set 1 b2 } ∧ True) := by
    rw [← hBB.out.1, ← hBB.out.2]
    have F1 := K5.out.1.setCell 0 _ _ _ _ rfl 17 (.int .u16 512) hC3.out.symm
    have J1 := ((K5.out.2.1).offT (K5.out.1.bx 0 _ _ _ rfl) (by decide) (by decide) (fun q hq => heap_setCell_other y5 ⟨w.heap.size, 17, none⟩ q (.int .u16 512) hq)).setPC 512 (by decide)
    rw [show C2.setIfInBounds 17 (.int .u16 ((512 : Nat) : Int)) = C3 from hC3.out.symm] at J1
    obtain ⟨lb, ⟨cs1, x1⟩, _, _, J2⟩ := J1.setMe hM3.out 0 (by show 0 < g.me.length; rw [hml'.out]; decide)
    have F2 := F1.offU x1 lb boxT2 0 (.int .u8 (b1.toNat : Int))
    obtain ⟨_, ⟨cs2, x2⟩, _, _, J3⟩ := (J2 b1).setMe hM3.out 1 (by show 1 < (g.me.set 0 b1).length; rw [List.length_set, hml'.out]; decide)
    exact ⟨F2.offU x2 lb boxT2 1 _, J3 b2, trivial⟩
  go_upto_region 14 with (fail)
  generalize ((y5.setCell ⟨w.heap.size, 17, none⟩ (.int .u16 512)).setCell ⟨gM, 0, none⟩ (.int .u8 (B1 : Int))).setCell ⟨gM, 1, none⟩ (.int .u8 (B2 : Int)) = ya at A1 ⊢
  clear c22 c17 z17 d0 f0 d1 f1 hM xM lM ix0 ix1
  have c22a := (A1.out.1.bx 0 _ _ _ rfl).c 22 _ hM3.out
  have hla : Hid (((g.me.set 0 b1).set 1 b2).length = 3232) := by show _ = _; simp only [List.length_set]; exact hml'.out
  obtain ⟨lMa, ⟨csa, xa⟩, ⟨vza, dza⟩, fza, Ja⟩ := (A1.out.2.1).setMe hM3.out 2 (by show 2 < ((g.me.set 0 b1).set 1 b2).length; rw [hla.out]; decide)
  have dra := (A1.out.2.1).meAt hM3.out 0 (by show 0 < ((g.me.set 0 b1).set 1 b2).length; rw [hla.out]; decide)
  rw [show ((({ g with pc := 512, me := (g.me.set 0 b1).set 1 b2 } : Gm).me.getD 0 0).toNat : Int) = (B1 : Int) from by have h := hBB.out; have h0 := hml'.out; show ((((g.me.set 0 b1).set 1 b2).getD 0 0).toNat : Int) = _; rw [show ((g.me.set 0 b1).set 1 b2).getD 0 0 = b1 from by simp [List.getD, h0]]; omega] at dra
  have ixaa := fun v => idxB .i64 gM 0 3232 cM 0 v (by decide)
  have ixba := fun v => idxB .i64 gM 0 3232 cM 2 v (by decide)
  rw [show ((0 : Nat) : Int) = 0 from rfl] at ixaa
  rw [show ((2 : Nat) : Int) = 2 from rfl] at ixba
  simp only [Nat.zero_add] at ixaa ixba
  have A2' : Hid (∀ n, Fm w [(w.heap.size, C3, 29), (w.heap.size + 1, D, 40)] ((ya.drewN n).setCell ⟨gM, 2, none⟩ (.int .u8 (B1 : Int))) ∧ GO w.heap.size ((ya.drewN n).setCell ⟨gM, 2, none⟩ (.int .u8 (B1 : Int))) C3 { g with pc := 512, me := ((g.me.set 0 b1).set 1 b2).set 2 b1 } ∧ True) := by
    intro n
    rw [← hBB.out.1]
    have F := A1.out.1.below (below_drewN (n := n) (Below.refl _ _))
    have J := (A1.out.2.1).below (below_drewN (n := n) (Below.refl _ _))
    obtain ⟨lb, ⟨cs', x'⟩, _, _, J'⟩ := J.setMe hM3.out 2 (by show 2 < ((g.me.set 0 b1).set 1 b2).length; rw [hla.out]; decide)
    skip
    exact ⟨F.offU x' lb boxT2 2 _, J' b1, trivial⟩
  clear Ja xa lMa
  go_wp2
  refine region_class_tail 7 (fun y => ∃ n, y = ya.drewN n) (by kernel_rfl) (by kernel_rfl) ⟨1, rfl⟩ ?_
  dsimp only [List.take, List.drop]
  repeat (go_big_quiet_step (fail))
  refine wpQuiet_nil ?_
  rintro _ ⟨nqa, rfl⟩
  go_upto_region 15 with (fail)
  have A2 := A2'.out nqa
  generalize (ya.drewN nqa).setCell ⟨gM, 2, none⟩ (.int .u8 (B1 : Int)) = yb at A2 ⊢
  replace A2 : Hid _ := A2
  clear c22a dza fza dra A2'
  have c22b := (A2.out.1.bx 0 _ _ _ rfl).c 22 _ hM3.out
  have hlb : Hid ((((g.me.set 0 b1).set 1 b2).set 2 b1).length = 3232) := by show _ = _; simp only [List.length_set]; exact hml'.out
  obtain ⟨lMb, ⟨csb, xb⟩, ⟨vzb, dzb⟩, fzb, Jb⟩ := (A2.out.2.1).setMe hM3.out 3 (by show 3 < (((g.me.set 0 b1).set 1 b2).set 2 b1).length; rw [hlb.out]; decide)
  have drb := (A2.out.2.1).meAt hM3.out 1 (by show 1 < (((g.me.set 0 b1).set 1 b2).set 2 b1).length; rw [hlb.out]; decide)
  rw [show ((({ g with pc := 512, me := ((g.me.set 0 b1).set 1 b2).set 2 b1 } : Gm).me.getD 1 0).toNat : Int) = (B2 : Int) from by have h := hBB.out; have h0 := hml'.out; show (((((g.me.set 0 b1).set 1 b2).set 2 b1).getD 1 0).toNat : Int) = _; rw [show (((g.me.set 0 b1).set 1 b2).set 2 b1).getD 1 0 = b2 from by simp [List.getD, h0]]; omega] at drb
  have ixab := fun v => idxB .i64 gM 0 3232 cM 1 v (by decide)
  have ixbb := fun v => idxB .i64 gM 0 3232 cM 3 v (by decide)
  rw [show ((1 : Nat) : Int) = 1 from rfl] at ixab
  rw [show ((3 : Nat) : Int) = 3 from rfl] at ixbb
  simp only [Nat.zero_add] at ixab ixbb
  have A3' : Hid (∀ n, Fm w [(w.heap.size, C3, 29), (w.heap.size + 1, D, 40)] ((yb.drewN n).setCell ⟨gM, 3, none⟩ (.int .u8 (B2 : Int))) ∧ GO w.heap.size ((yb.drewN n).setCell ⟨gM, 3, none⟩ (.int .u8 (B2 : Int))) C3 G2 ∧ True) := by
    intro n
    rw [← hBB.out.2]
    have F := A2.out.1.below (below_drewN (n := n) (Below.refl _ _))
    have J := (A2.out.2.1).below (below_drewN (n := n) (Below.refl _ _))
    obtain ⟨lb, ⟨cs', x'⟩, _, _, J'⟩ := J.setMe hM3.out 3 (by show 3 < (((g.me.set 0 b1).set 1 b2).set 2 b1).length; rw [hlb.out]; decide)
    rw [hG2.out]
    exact ⟨F.offU x' lb boxT2 3 _, J' b2, trivial⟩
  clear Jb xb lMb
  go_wp2
  refine region_class_tail 7 (fun y => ∃ n, y = yb.drewN n) (by kernel_rfl) (by kernel_rfl) ⟨1, rfl⟩ ?_
  dsimp only [List.take, List.drop]
  repeat (go_big_quiet_step (fail))
  refine wpQuiet_nil ?_
  rintro _ ⟨nqb, rfl⟩
  go_upto_region 16 with (fail)
  have A3 := A3'.out nqb
  generalize (yb.drewN nqb).setCell ⟨gM, 3, none⟩ (.int .u8 (B2 : Int)) = y20 at A3 ⊢
  replace A3 : Hid _ := A3
  clear c22b dzb fzb drb A3'
  have K20 : Hid (Fm w [(w.heap.size, C3, 29), (w.heap.size + 1, D, 40)] y20 ∧ GO w.heap.size y20 C3 G2 ∧ True) := A3
  clear A3 A1 A2
  go_wp2_with (first
    | ((with_reducible refine at_st rtG y26.heap.size #[.int .u8 0, .int .u8 0, .int .u8 0, .int .u8 0, .int .u8 0, .int .u8 0, .int .u8 0, .int .u8 0, .int .u8 0, .int .u8 0, .int .u8 0, .int .u8 0, .int .u8 0, .int .u8 0, .int .u8 0, .int .u8 0, .int .u16 0, .int .u16 0, .slice none 0 0, .int .u8 0, .int .u8 0, .slice none 0 0, .slice none 0 0] C5 ?_ ?_ ?_ ?_ (.tmp 16) (.tmp 96) ?_ ?_ ?_ ?_ ?_); exact K27.out.1.bx 4 _ _ _ rfl; rfl; exact (K27.out.2.2.2.1).lies.size.1; exact (K27.out.2.2.2.1).lies.size.2.1; rfl; rfl; rfl; rfl; intro y28 H28; have K28 : Hid (Fm w [(w.heap.size, C3, 29), (w.heap.size + 1, D, 40), (y20.heap.size, #[.int .u8 0, .int .u16 0, .int .i64 (-1)], 50), (y23.heap.size, C4, 29), (y26.heap.size, C5, 29)] y28 ∧ GO w.heap.size y28 C3 G2 ∧ GO w.heap.size y28 C4 s1 ∧ GO w.heap.size y28 C5 s2 ∧ True) := ⟨K27.out.1.put 4 _ _ _ _ rfl H28.out, (K27.out.2.1).offT (K27.out.1.bx 4 _ _ _ rfl) (by decide) (by decide) H28.out.2.2, (K27.out.2.2.1).offT (K27.out.1.bx 4 _ _ _ rfl) (by decide) (by decide) H28.out.2.2, (K27.out.2.2.2.1).offT (K27.out.1.bx 4 _ _ _ rfl) (by decide) (by decide) H28.out.2.2, trivial⟩; clear H28 K27; obtain ⟨pg1, pg2, pg3, eg, vg⟩ := (K28.out.2.1).page; obtain ⟨pa1, pa2, pa3, ea, va⟩ := (K28.out.2.2.1).page; obtain ⟨pb1, pb2, pb3, eb, vb⟩ := (K28.out.2.2.2.1).page; have cg21 := (K28.out.1.bx 0 _ _ _ rfl).c 21 _ eg; have ca21 := (K28.out.1.bx 3 _ _ _ rfl).c 21 _ ea; have cb21 := (K28.out.1.bx 4 _ _ _ rfl).c 21 _ eb; have ra := (K28.out.2.2.1).regs.2.2.1; have rb := (K28.out.2.2.2.1).regs.2.2.1; rw [hva.out, show ((0 : Nat) : Int) = 0 from rfl] at ra; rw [hvb.out, show ((0 : Nat) : Int) = 0 from rfl] at rb; have ca15 := (K28.out.1.bx 3 _ _ _ rfl).c 15 _ ra; have cb15 := (K28.out.1.bx 4 _ _ _ rfl).c 15 _ rb; rw [xg.out] at vg; rw [xa.out] at va; rw [xb.out] at vb; clear eg ea eb ra rb)
    | ((with_reducible refine gen_world (y26.alloc (.cells #[.int .u8 0, .int .u8 0, .int .u8 0, .int .u8 0, .int .u8 0, .int .u8 0, .int .u8 0, .int .u8 0, .int .u8 0, .int .u8 0, .int .u8 0, .int .u8 0, .int .u8 0, .int .u8 0, .int .u8 0, .int .u8 0, .int .u16 0, .int .u16 0, .slice none 0 0, .int .u8 0, .int .u8 0, .slice none 0 0, .slice none 0 0] 29)) (fun y => Fm w [(w.heap.size, C3, 29), (w.heap.size + 1, D, 40), (y20.heap.size, #[.int .u8 0, .int .u16 0, .int .i64 (-1)], 50), (y23.heap.size, C4, 29), (y26.heap.size, #[.int .u8 0, .int .u8 0, .int .u8 0, .int .u8 0, .int .u8 0, .int .u8 0, .int .u8 0, .int .u8 0, .int .u8 0, .int .u8 0, .int .u8 0, .int .u8 0, .int .u8 0, .int .u8 0, .int .u8 0, .int .u8 0, .int .u16 0, .int .u16 0, .slice none 0 0, .int .u8 0, .int .u8 0, .slice none 0 0, .slice none 0 0], 29)] y ∧ GO w.heap.size y C3 G2 ∧ GO w.heap.size y C4 s1 ∧ GO w.heap.size y C5 s2 ∧ True) ?_ ?_); (exact ⟨K26.out.1.new _ _, (K26.out.2.1).below (below1 y26 _), (K26.out.2.2.1).below (below1 y26 _), (K26.out.2.2.2.1).below (below1 y26 _), trivial⟩); intro y27 K27)
    | (go_at_call 22; refine (step_aw2 y25 C4 D s1 f (K25.out.2.2.1).lies (hf.out.below K25.out.1.low) hsS.out s2 o2 e2 hs2.out).mono ?_; rintro e y26 ⟨C5, rfl, J, H⟩; have K26 : Hid (Fm w [(w.heap.size, C3, 29), (w.heap.size + 1, D, 40), (y20.heap.size, #[.int .u8 0, .int .u16 0, .int .i64 (-1)], 50), (y23.heap.size, C4, 29)] y26 ∧ GO w.heap.size y26 C3 G2 ∧ GO w.heap.size y26 C4 s1 ∧ GO w.heap.size y26 C5 s2 ∧ True) := ⟨K25.out.1.below H, (K25.out.2.1).below H, (K25.out.2.2.1).below H, J.weak K25.out.1.low.size, trivial⟩; clear H J)
    | ((with_reducible refine at_st rtG y23.heap.size #[.int .u8 0, .int .u8 0, .int .u8 0, .int .u8 0, .int .u8 0, .int .u8 0, .int .u8 0, .int .u8 0, .int .u8 0, .int .u8 0, .int .u8 0, .int .u8 0, .int .u8 0, .int .u8 0, .int .u8 0, .int .u8 0, .int .u16 0, .int .u16 0, .slice none 0 0, .int .u8 0, .int .u8 0, .slice none 0 0, .slice none 0 0] C4 ?_ ?_ ?_ ?_ (.tmp 13) (.tmp 73) ?_ ?_ ?_ ?_ ?_); exact K24.out.1.bx 3 _ _ _ rfl; rfl; exact (K24.out.2.2.1).lies.size.1; exact (K24.out.2.2.1).lies.size.2.1; rfl; rfl; rfl; rfl; intro y25 H25; have K25 : Hid (Fm w [(w.heap.size, C3, 29), (w.heap.size + 1, D, 40), (y20.heap.size, #[.int .u8 0, .int .u16 0, .int .i64 (-1)], 50), (y23.heap.size, C4, 29)] y25 ∧ GO w.heap.size y25 C3 G2 ∧ GO w.heap.size y25 C4 s1 ∧ True) := ⟨K24.out.1.put 3 _ _ _ _ rfl H25.out, (K24.out.2.1).offT (K24.out.1.bx 3 _ _ _ rfl) (by decide) (by decide) H25.out.2.2, (K24.out.2.2.1).offT (K24.out.1.bx 3 _ _ _ rfl) (by decide) (by decide) H25.out.2.2, trivial⟩; clear H25 K24)
    | ((with_reducible refine gen_world (y23.alloc (.cells #[.int .u8 0, .int .u8 0, .int .u8 0, .int .u8 0, .int .u8 0, .int .u8 0, .int .u8 0, .int .u8 0, .int .u8 0, .int .u8 0, .int .u8 0, .int .u8 0, .int .u8 0, .int .u8 0, .int .u8 0, .int .u8 0, .int .u16 0, .int .u16 0, .slice none 0 0, .int .u8 0, .int .u8 0, .slice none 0 0, .slice none 0 0] 29)) (fun y => Fm w [(w.heap.size, C3, 29), (w.heap.size + 1, D, 40), (y20.heap.size, #[.int .u8 0, .int .u16 0, .int .i64 (-1)], 50), (y23.heap.size, #[.int .u8 0, .int .u8 0, .int .u8 0, .int .u8 0, .int .u8 0, .int .u8 0, .int .u8 0, .int .u8 0, .int .u8 0, .int .u8 0, .int .u8 0, .int .u8 0, .int .u8 0, .int .u8 0, .int .u8 0, .int .u8 0, .int .u16 0, .int .u16 0, .slice none 0 0, .int .u8 0, .int .u8 0, .slice none 0 0, .slice none 0 0], 29)] y ∧ GO w.heap.size y C3 G2 ∧ GO w.heap.size y C4 s1 ∧ True) ?_ ?_); (exact ⟨K23.out.1.new _ _, (K23.out.2.1).below (below1 y23 _), (K23.out.2.2.1).below (below1 y23 _), trivial⟩); intro y24 K24)
    | (go_at_call 22; refine (step_aw2 y22 C3 D G2 f (K22.out.2.1).lies (hf.out.below K22.out.1.low) hsG.out s1 o1 e1 hs1.out).mono ?_; rintro e y23 ⟨C4, rfl, J, H⟩; have K23 : Hid (Fm w [(w.heap.size, C3, 29), (w.heap.size + 1, D, 40), (y20.heap.size, #[.int .u8 0, .int .u16 0, .int .i64 (-1)], 50)] y23 ∧ GO w.heap.size y23 C3 G2 ∧ GO w.heap.size y23 C4 s1 ∧ True) := ⟨K22.out.1.below H, (K22.out.2.1).below H, J.weak K22.out.1.low.size, trivial⟩; clear H J)
    | ((with_reducible refine at_st rtFd y20.heap.size #[.int .u8 0, .int .u16 0, .int .i64 0] #[.int .u8 0, .int .u16 0, .int .i64 (-1)] ?_ ?_ ?_ ?_ (.tmp 12) (.tmp 67) ?_ ?_ ?_ ?_ ?_); exact K21.out.1.bx 2 _ _ _ rfl; rfl; rfl; exact dCs_one fd0; rfl; rfl; rfl; rfl; intro y22 H22; have K22 : Hid (Fm w [(w.heap.size, C3, 29), (w.heap.size + 1, D, 40), (y20.heap.size, #[.int .u8 0, .int .u16 0, .int .i64 (-1)], 50)] y22 ∧ GO w.heap.size y22 C3 G2 ∧ True) := ⟨K21.out.1.put 2 _ _ _ _ rfl H22.out, (K21.out.2.1).offT (K21.out.1.bx 2 _ _ _ rfl) (by decide) (by decide) H22.out.2.2, trivial⟩; clear H22 K21)
    | ((with_reducible refine gen_world (y20.alloc (.cells #[.int .u8 0, .int .u16 0, .int .i64 0] 50)) (fun y => Fm w [(w.heap.size, C3, 29), (w.heap.size + 1, D, 40), (y20.heap.size, #[.int .u8 0, .int .u16 0, .int .i64 0], 50)] y ∧ GO w.heap.size y C3 G2 ∧ True) ?_ ?_); (exact ⟨K20.out.1.new _ _, (K20.out.2.1).below (below1 y20 _), trivial⟩); intro y21 K21)
    | ((with_reducible refine at_bu #[(2, .const (.int .i64 (-1)))] [(2, .int .i64 (-1))] #[.int .u8 0, .int .u16 0, .int .i64 (-1)] ?_ ?_ ?_ builtD0 ?_); kernel_rfl; rfl; kernel_rfl)
    | ((with_reducible refine at_load rtG (w.heap.size) C3 ?_ ?_ (.tmp 3) ?_ ?_ ?_ ?_); (first | exact K22.out.1.bx 0 _ _ _ rfl); (first | exact (K22.out.2.1).lies.size.1); kernel_rfl; rfl; rfl)
    | ((with_reducible refine at_load rtFn (w.heap.size + 1) D ?_ ?_ (.tmp 4) ?_ ?_ ?_ ?_); (first | exact K25.out.1.bx 1 _ _ _ rfl | exact K22.out.1.bx 1 _ _ _ rfl); (first | exact gD.out); kernel_rfl; rfl; rfl)
    | ((with_reducible refine at_load rtFd (y20.heap.size) #[.int .u8 0, .int .u16 0, .int .i64 (-1)] ?_ ?_ (.tmp 12) ?_ ?_ ?_ ?_); (first | exact K25.out.1.bx 2 _ _ _ rfl | exact K22.out.1.bx 2 _ _ _ rfl); (first | rfl); kernel_rfl; rfl; rfl)
    | ((with_reducible refine at_load rtG (y23.heap.size) C4 ?_ ?_ (.tmp 13) ?_ ?_ ?_ ?_); (first | exact K25.out.1.bx 3 _ _ _ rfl); (first | exact (K25.out.2.2.1).lies.size.1); kernel_rfl; rfl; rfl))
  go_ret
  exact ⟨rfl, K28.out.1.low⟩

theorem twice_01 (w : World) (C D : Array Value) (g : Gm) (f : Fo) (a : Int) (hg : Hid (GL w C g)) (hf : Hid (FL w D f)) (ha : -9223372036854775808 ≤ a ∧ a ≤ 9223372036854775807) (hv : Hid (vasG g.st.length g.pg.length g.me.length f.by_.length = false)) (hm : Hid (g.may = true)) (hs : Hid (smaG g f)) (P X Y : Nat) (a1 a2 : Int) (hP : Hid ((if a < 0 then -(a + 1) else a) % 16 = (P : Int))) (wa1 : Int.tdiv a 16 = a1) (wa2 : Int.tdiv a 240 = a2) (ha1 : -9223372036854775808 ≤ a1 ∧ a1 ≤ 9223372036854775807) (ha2 : -9223372036854775808 ≤ a2 ∧ a2 ≤ 9223372036854775807) (hX : Hid ((if a1 < 0 then -(a1 + 1) else a1) % 15 = (X : Int))) (hY : Hid ((if a2 < 0 then -(a2 + 1) else a2) % 15 = (Y : Int))) (hP1 : P < 16) (hX1 : X < 15) (hY1 : Y < 15) (b1 b2 : UInt8) (hb1 : b1.toNat = 208 + X) (hb2 : b2.toNat = 16 * Y + P) (G2 : Gm) (hG2 : Hid (G2 = { g with pc := 512, me := (((g.me.set 0 b1).set 1 b2).set 2 b1).set 3 b2 })) (hsG : Hid (smaG G2 f)) (s1 : Gm) (o1 e1 : Nat) (hs1 : Hid (stepG G2 f fd0 = (s1, o1, e1))) (he : e1 = 0) (ho : o1 = 1) (hsS : Hid (smaG s1 f)) (s2 : Gm) (o2 e2 : Nat) (hs2 : Hid (stepG s1 f fd0 = (s2, o2, e2))) (ho2 : o2 = 1) (hva : Hid ((s1.v.getD 15 0).toNat = 0)) (hvb : Hid ((s2.v.getD 15 0).toNat = 1)) (X1 X2 : ByteArray) (xg : Hid (sB G2.pg = X2)) (xa : Hid (sB s1.pg = X1)) (xb : Hid (sB s2.pg = X2)) (hne : X1.toList ≠ X2.toList) :
    Calls Try.prog 7 #[.agg C, .agg D, .int .i64 a] w fun e w' => e = .returned (.bool true) ∧ Below w.heap.size w w' := by
  have gC : Hid (C.size = 23) := hg.out.size.1
  have gD : Hid (D.size = 18) := hf.out.size
  have nst : Hid (g.st.length ≤ 4000000000 ∧ g.pg.length ≤ 4000000000 ∧ g.me.length ≤ 4000000000) := by have := hs.out; unfold smaG at this; exact ⟨by omega, by omega, by omega⟩
  have hml' : Hid (g.me.length = 3232) := (may_iff.1 hm.out).2.1
  have w1' : IntKind.i64.wrap (Int.tdiv a 16) = a1 := by rw [wa1, IntKind.wrap_i64]; omega
  have w2' : IntKind.i64.wrap (Int.tdiv a 240) = a2 := by rw [wa2, IntKind.wrap_i64]; omega
  have l1 : (P : Int) < 16 := by omega
  have l2 : (X : Int) < 15 := by omega
  have l3 : (Y : Int) < 15 := by omega
  obtain ⟨B1, hB1⟩ : ∃ x, b1.toNat = x := ⟨_, rfl⟩
  obtain ⟨B2, hB2⟩ : ∃ x, b2.toNat = x := ⟨_, rfl⟩
  have w7 : (208 : Int) + (X : Int) = (B1 : Int) := by omega
  have w7' : IntKind.u8.wrap ((208 : Int) + (X : Int)) = (B1 : Int) := by rw [IntKind.wrap_u8]; omega
  obtain ⟨Z, hZ⟩ : ∃ x, 16 * Y = x := ⟨_, rfl⟩
  have w8 : (16 : Int) * (Y : Int) = (Z : Int) := by omega
  have w9 : (Z : Int) + (P : Int) = (B2 : Int) := by omega
  have l4 : (Z : Int) < 256 := by omega
  have l5 : (B1 : Int) < 256 := by omega
  have l6 : (B2 : Int) < 256 := by omega
  have hBB : Hid (b1.toNat = B1 ∧ b2.toNat = B2) := ⟨hB1, hB2⟩
  clear hP1 hX1 hY1 hb1 hb2 hB1 hB2 hZ
  have q1 : ((e1 : Int) != 0) = false := by simp; omega
  have q2 : ((o1 : Int) != 1) = false := by simp; omega
  have q3 : ((o2 : Int) == 1) = true := by simp; omega
  have q4 : (X2.toList == X2.toList) = true := by simp
  have q5 : (X1.toList == X2.toList) = false := by simpa using hne
  clear hne
  clear he ho ho2
  go_enter Try.func7, Try.ntmps7
  go_upto_region 11 with (first
    | ((with_reducible refine at_st rtG (w.heap.size) C C2 ?_ ?_ ?_ ?_ (.tmp 3) (.tmp 37) ?_ ?_ ?_ ?_ ?_); exact K4.out.1.bx 0 _ _ _ rfl; exact gC.out; exact (K4.out.2.1).lies.size.1; exact (K4.out.2.1).lies.size.2.1; rfl; rfl; rfl; rfl; intro y5 H5; have K5 : Hid (Fm w [(w.heap.size, C2, 29), (w.heap.size + 1, D, 40)] y5 ∧ GO w.heap.size y5 C2 g ∧ True) := ⟨K4.out.1.put 0 _ _ _ _ rfl H5.out, (K4.out.2.1).offT (K4.out.1.bx 0 _ _ _ rfl) (by decide) (by decide) H5.out.2.2, trivial⟩; clear H5)
    | (go_at_call 25; refine (copied_any y3 C g (hg.out.below K3.out.1.low) nst.out.1 nst.out.2.1 nst.out.2.2).mono ?_; rintro e y4 ⟨C2, rfl, H⟩; have K4 : Hid (Fm w [(w.heap.size, C, 29), (w.heap.size + 1, D, 40)] y4 ∧ GO w.heap.size y4 C2 g ∧ True) := ⟨K3.out.1.below H.out.2, H.out.1.weak K3.out.1.low.size, trivial⟩; clear H)
    | (go_at_call 24; with_reducible refine (pick_any y3 a2 15 ha2 (by decide)).mono ?_; rintro e yp ⟨rfl, ep⟩; replace ep := ep.symm; subst ep; rw [hY.out])
    | (go_at_call 24; with_reducible refine (pick_any y3 a1 15 ha1 (by decide)).mono ?_; rintro e yp ⟨rfl, ep⟩; replace ep := ep.symm; subst ep; rw [hX.out])
    | (go_at_call 24; with_reducible refine (pick_any y3 a 16 ha (by decide)).mono ?_; rintro e yp ⟨rfl, ep⟩; replace ep := ep.symm; subst ep; rw [hP.out])
    | (go_at_call 20; refine (rcheck_gl y2 C g (hg.out.below K2.out.1.low)).mono ?_; rintro e y3 ⟨rfl, H⟩; have K3 : Hid (Fm w [(w.heap.size, C, 29), (w.heap.size + 1, D, 40)] y3 ∧ True) := ⟨K2.out.1.below H, trivial⟩; rw [hm.out]; clear H)
    | (go_at_call 15; refine (vast_gl y1 C D g f (hg.out.below K1.out.1.low) (hf.out.below K1.out.1.low)).mono ?_; rintro e y2 ⟨rfl, H⟩; have K2 : Hid (Fm w [(w.heap.size, C, 29), (w.heap.size + 1, D, 40)] y2 ∧ True) := ⟨K1.out.1.below H, trivial⟩; rw [hv.out]; clear H)
    | (go_at_call 8; refine (awake_any y0).mono ?_; rintro e y1 ⟨rfl, H⟩; have K1 : Hid (Fm w [(w.heap.size, C, 29), (w.heap.size + 1, D, 40)] y1 ∧ True) := ⟨K0.out.1.below H, trivial⟩; clear H)
    | ((with_reducible refine gen_world ((w.alloc (.cells C 29)).alloc (.cells D 40)) (fun y => Fm w [(w.heap.size, C, 29), (w.heap.size + 1, D, 40)] y ∧ True) ?_ ?_); (exact ⟨Fm.two w _ _ _ _ , trivial⟩); intro y0 K0)
    | ((with_reducible refine at_load rtG (w.heap.size) C ?_ ?_ (.tmp 3) ?_ ?_ ?_ ?_); (first | exact K3.out.1.bx 0 _ _ _ rfl | exact K2.out.1.bx 0 _ _ _ rfl | exact K1.out.1.bx 0 _ _ _ rfl); (first | exact gC.out | exact (K3.out.2.1).lies.size.1 | exact (K2.out.2.1).lies.size.1 | exact (K1.out.2.1).lies.size.1); kernel_rfl; rfl; rfl)
    | ((with_reducible refine at_load rtFn (w.heap.size + 1) D ?_ ?_ (.tmp 4) ?_ ?_ ?_ ?_); (first | exact K1.out.1.bx 1 _ _ _ rfl); (first | exact gD.out); kernel_rfl; rfl; rfl))
  obtain ⟨gM, cM, hM⟩ := (K5.out.2.1).memC (by rw [hml'.out]; decide)
  rw [hml'.out] at hM
  have c22 := (K5.out.1.bx 0 _ _ _ rfl).c 22 _ hM
  have c17 := (K5.out.1.bx 0 _ _ _ rfl).c 17 _ ((K5.out.2.1).cells).choose_spec.choose_spec.choose_spec.choose_spec.1
  have z17 := (K5.out.1.bx 0 _ _ _ rfl).fz 17
  obtain ⟨lM, ⟨csM, xM⟩, ⟨v0, d0⟩, f0, _⟩ := (K5.out.2.1).setMe hM 0 (by rw [hml'.out]; decide)
  obtain ⟨_, _, ⟨v1, d1⟩, f1, _⟩ := (K5.out.2.1).setMe hM 1 (by rw [hml'.out]; decide)
  obtain ⟨C3, hC3⟩ : ∃ x, Hid (x = C2.setIfInBounds 17 (.int .u16 512)) := ⟨_, (rfl : C2.setIfInBounds 17 (.int .u16 512) = _)⟩
  have hM3 : Hid (C3[22]? = some (.slice (some ⟨gM, 0, none⟩) 3232 cM)) := by rw [hC3.out]; show _ = _; rw [Array.getElem?_setIfInBounds_ne (by decide)]; exact hM
  have ix0 := fun v => idxB .i64 gM 0 3232 cM 0 v (by decide)
  have ix1 := fun v => idxB .i64 gM 0 3232 cM 1 v (by decide)
  rw [show ((0 : Nat) : Int) = 0 from rfl] at ix0
  rw [show ((1 : Nat) : Int) = 1 from rfl] at ix1
  simp only [Nat.zero_add] at ix0 ix1
  have A1 : Hid (Fm w [(w.heap.size, C3, 29), (w.heap.size + 1, D, 40)] (((y5.setCell ⟨w.heap.size, 17, none⟩ (.int .u16 512)).setCell ⟨gM, 0, none⟩ (.int .u8 (B1 : Int))).setCell ⟨gM, 1, none⟩ (.int .u8 (B2 : Int))) ∧ GO w.heap.size (((y5.setCell ⟨w.heap.size, 17, none⟩ (.int .u16 512)).setCell ⟨gM, 0, none⟩ (.int .u8 (B1 : Int))).setCell ⟨gM, 1, none⟩ (.int .u8 (B2 : Int))) C3 { g with pc := 512, me := (g.me.set 0 b1).set 1 b2 } ∧ True) := by
    rw [← hBB.out.1, ← hBB.out.2]
    have F1 := K5.out.1.setCell 0 _ _ _ _ rfl 17 (.int .u16 512) hC3.out.symm
    have J1 := ((K5.out.2.1).offT (K5.out.1.bx 0 _ _ _ rfl) (by decide) (by decide) (fun q hq => heap_setCell_other y5 ⟨w.heap.size, 17, none⟩ q (.int .u16 512) hq)).setPC 512 (by decide)
    rw [show C2.setIfInBounds 17 (.int .u16 ((512 : Nat) : Int)) = C3 from hC3.out.symm] at J1
    obtain ⟨lb, ⟨cs1, x1⟩, _, _, J2⟩ := J1.setMe hM3.out 0 (by show 0 < g.me.length; rw [hml'.out]; decide)
    have F2 := F1.offU x1 lb boxT2 0 (.int .u8 (b1.toNat : Int))
    obtain ⟨_, ⟨cs2, x2⟩, _, _, J3⟩ := (J2 b1).setMe hM3.out 1 (by show 1 < (g.me.set 0 b1).length; rw [List.length_set, hml'.out]; decide)
    exact ⟨F2.offU x2 lb boxT2 1 _, J3 b2, trivial⟩
  go_upto_region 14 with (fail)
  generalize ((y5.setCell ⟨w.heap.size, 17, none⟩ (.int .u16 512)).setCell ⟨gM, 0, none⟩ (.int .u8 (B1 : Int))).setCell ⟨gM, 1, none⟩ (.int .u8 (B2 : Int)) = ya at A1 ⊢
  clear c22 c17 z17 d0 f0 d1 f1 hM xM lM ix0 ix1
  have c22a := (A1.out.1.bx 0 _ _ _ rfl).c 22 _ hM3.out
  have hla : Hid (((g.me.set 0 b1).set 1 b2).length = 3232) := by show _ = _; simp only [List.length_set]; exact hml'.out
  obtain ⟨lMa, ⟨csa, xa⟩, ⟨vza, dza⟩, fza, Ja⟩ := (A1.out.2.1).setMe hM3.out 2 (by show 2 < ((g.me.set 0 b1).set 1 b2).length; rw [hla.out]; decide)
  have dra := (A1.out.2.1).meAt hM3.out 0 (by show 0 < ((g.me.set 0 b1).set 1 b2).length; rw [hla.out]; decide)
  rw [show ((({ g with pc := 512, me := (g.me.set 0 b1).set 1 b2 } : Gm).me.getD 0 0).toNat : Int) = (B1 : Int) from by have h := hBB.out; have h0 := hml'.out; show ((((g.me.set 0 b1).set 1 b2).getD 0 0).toNat : Int) = _; rw [show ((g.me.set 0 b1).set 1 b2).getD 0 0 = b1 from by simp [List.getD, h0]]; omega] at dra
  have ixaa := fun v => idxB .i64 gM 0 3232 cM 0 v (by decide)
  have ixba := fun v => idxB .i64 gM 0 3232 cM 2 v (by decide)
  rw [show ((0 : Nat) : Int) = 0 from rfl] at ixaa
  rw [show ((2 : Nat) : Int) = 2 from rfl] at ixba
  simp only [Nat.zero_add] at ixaa ixba
  have A2' : Hid (∀ n, Fm w [(w.heap.size, C3, 29), (w.heap.size + 1, D, 40)] ((ya.drewN n).setCell ⟨gM, 2, none⟩ (.int .u8 (B1 : Int))) ∧ GO w.heap.size ((ya.drewN n).setCell ⟨gM, 2, none⟩ (.int .u8 (B1 : Int))) C3 { g with pc := 512, me := ((g.me.set 0 b1).set 1 b2).set 2 b1 } ∧ True) := by
    intro n
    rw [← hBB.out.1]
    have F := A1.out.1.below (below_drewN (n := n) (Below.refl _ _))
    have J := (A1.out.2.1).below (below_drewN (n := n) (Below.refl _ _))
    obtain ⟨lb, ⟨cs', x'⟩, _, _, J'⟩ := J.setMe hM3.out 2 (by show 2 < ((g.me.set 0 b1).set 1 b2).length; rw [hla.out]; decide)
    skip
    exact ⟨F.offU x' lb boxT2 2 _, J' b1, trivial⟩
  clear Ja xa lMa
  go_wp2
  refine region_class_tail 7 (fun y => ∃ n, y = ya.drewN n) (by kernel_rfl) (by kernel_rfl) ⟨1, rfl⟩ ?_
  dsimp only [List.take, List.drop]
  repeat (go_big_quiet_step (fail))
  refine wpQuiet_nil ?_
  rintro _ ⟨nqa, rfl⟩
  go_upto_region 15 with (fail)
  have A2 := A2'.out nqa
  generalize (ya.drewN nqa).setCell ⟨gM, 2, none⟩ (.int .u8 (B1 : Int)) = yb at A2 ⊢
  replace A2 : Hid _ := A2
  clear c22a dza fza dra A2'
  have c22b := (A2.out.1.bx 0 _ _ _ rfl).c 22 _ hM3.out
  have hlb : Hid ((((g.me.set 0 b1).set 1 b2).set 2 b1).length = 3232) := by show _ = _; simp only [List.length_set]; exact hml'.out
  obtain ⟨lMb, ⟨csb, xb⟩, ⟨vzb, dzb⟩, fzb, Jb⟩ := (A2.out.2.1).setMe hM3.out 3 (by show 3 < (((g.me.set 0 b1).set 1 b2).set 2 b1).length; rw [hlb.out]; decide)
  have drb := (A2.out.2.1).meAt hM3.out 1 (by show 1 < (((g.me.set 0 b1).set 1 b2).set 2 b1).length; rw [hlb.out]; decide)
  rw [show ((({ g with pc := 512, me := ((g.me.set 0 b1).set 1 b2).set 2 b1 } : Gm).me.getD 1 0).toNat : Int) = (B2 : Int) from by have h := hBB.out; have h0 := hml'.out; show (((((g.me.set 0 b1).set 1 b2).set 2 b1).getD 1 0).toNat : Int) = _; rw [show (((g.me.set 0 b1).set 1 b2).set 2 b1).getD 1 0 = b2 from by simp [List.getD, h0]]; omega] at drb
  have ixab := fun v => idxB .i64 gM 0 3232 cM 1 v (by decide)
  have ixbb := fun v => idxB .i64 gM 0 3232 cM 3 v (by decide)
  rw [show ((1 : Nat) : Int) = 1 from rfl] at ixab
  rw [show ((3 : Nat) : Int) = 3 from rfl] at ixbb
  simp only [Nat.zero_add] at ixab ixbb
  have A3' : Hid (∀ n, Fm w [(w.heap.size, C3, 29), (w.heap.size + 1, D, 40)] ((yb.drewN n).setCell ⟨gM, 3, none⟩ (.int .u8 (B2 : Int))) ∧ GO w.heap.size ((yb.drewN n).setCell ⟨gM, 3, none⟩ (.int .u8 (B2 : Int))) C3 G2 ∧ True) := by
    intro n
    rw [← hBB.out.2]
    have F := A2.out.1.below (below_drewN (n := n) (Below.refl _ _))
    have J := (A2.out.2.1).below (below_drewN (n := n) (Below.refl _ _))
    obtain ⟨lb, ⟨cs', x'⟩, _, _, J'⟩ := J.setMe hM3.out 3 (by show 3 < (((g.me.set 0 b1).set 1 b2).set 2 b1).length; rw [hlb.out]; decide)
    rw [hG2.out]
    exact ⟨F.offU x' lb boxT2 3 _, J' b2, trivial⟩
  clear Jb xb lMb
  go_wp2
  refine region_class_tail 7 (fun y => ∃ n, y = yb.drewN n) (by kernel_rfl) (by kernel_rfl) ⟨1, rfl⟩ ?_
  dsimp only [List.take, List.drop]
  repeat (go_big_quiet_step (fail))
  refine wpQuiet_nil ?_
  rintro _ ⟨nqb, rfl⟩
  go_upto_region 16 with (fail)
  have A3 := A3'.out nqb
  generalize (yb.drewN nqb).setCell ⟨gM, 3, none⟩ (.int .u8 (B2 : Int)) = y20 at A3 ⊢
  replace A3 : Hid _ := A3
  clear c22b dzb fzb drb A3'
  have K20 : Hid (Fm w [(w.heap.size, C3, 29), (w.heap.size + 1, D, 40)] y20 ∧ GO w.heap.size y20 C3 G2 ∧ True) := A3
  clear A3 A1 A2
  go_wp2_with (first
    | ((with_reducible refine at_st rtG y26.heap.size #[.int .u8 0, .int .u8 0, .int .u8 0, .int .u8 0, .int .u8 0, .int .u8 0, .int .u8 0, .int .u8 0, .int .u8 0, .int .u8 0, .int .u8 0, .int .u8 0, .int .u8 0, .int .u8 0, .int .u8 0, .int .u8 0, .int .u16 0, .int .u16 0, .slice none 0 0, .int .u8 0, .int .u8 0, .slice none 0 0, .slice none 0 0] C5 ?_ ?_ ?_ ?_ (.tmp 16) (.tmp 96) ?_ ?_ ?_ ?_ ?_); exact K27.out.1.bx 4 _ _ _ rfl; rfl; exact (K27.out.2.2.2.1).lies.size.1; exact (K27.out.2.2.2.1).lies.size.2.1; rfl; rfl; rfl; rfl; intro y28 H28; have K28 : Hid (Fm w [(w.heap.size, C3, 29), (w.heap.size + 1, D, 40), (y20.heap.size, #[.int .u8 0, .int .u16 0, .int .i64 (-1)], 50), (y23.heap.size, C4, 29), (y26.heap.size, C5, 29)] y28 ∧ GO w.heap.size y28 C3 G2 ∧ GO w.heap.size y28 C4 s1 ∧ GO w.heap.size y28 C5 s2 ∧ True) := ⟨K27.out.1.put 4 _ _ _ _ rfl H28.out, (K27.out.2.1).offT (K27.out.1.bx 4 _ _ _ rfl) (by decide) (by decide) H28.out.2.2, (K27.out.2.2.1).offT (K27.out.1.bx 4 _ _ _ rfl) (by decide) (by decide) H28.out.2.2, (K27.out.2.2.2.1).offT (K27.out.1.bx 4 _ _ _ rfl) (by decide) (by decide) H28.out.2.2, trivial⟩; clear H28 K27; obtain ⟨pg1, pg2, pg3, eg, vg⟩ := (K28.out.2.1).page; obtain ⟨pa1, pa2, pa3, ea, va⟩ := (K28.out.2.2.1).page; obtain ⟨pb1, pb2, pb3, eb, vb⟩ := (K28.out.2.2.2.1).page; have cg21 := (K28.out.1.bx 0 _ _ _ rfl).c 21 _ eg; have ca21 := (K28.out.1.bx 3 _ _ _ rfl).c 21 _ ea; have cb21 := (K28.out.1.bx 4 _ _ _ rfl).c 21 _ eb; have ra := (K28.out.2.2.1).regs.2.2.1; have rb := (K28.out.2.2.2.1).regs.2.2.1; rw [hva.out, show ((0 : Nat) : Int) = 0 from rfl] at ra; rw [hvb.out, show ((1 : Nat) : Int) = 1 from rfl] at rb; have ca15 := (K28.out.1.bx 3 _ _ _ rfl).c 15 _ ra; have cb15 := (K28.out.1.bx 4 _ _ _ rfl).c 15 _ rb; rw [xg.out] at vg; rw [xa.out] at va; rw [xb.out] at vb; clear eg ea eb ra rb)
    | ((with_reducible refine gen_world (y26.alloc (.cells #[.int .u8 0, .int .u8 0, .int .u8 0, .int .u8 0, .int .u8 0, .int .u8 0, .int .u8 0, .int .u8 0, .int .u8 0, .int .u8 0, .int .u8 0, .int .u8 0, .int .u8 0, .int .u8 0, .int .u8 0, .int .u8 0, .int .u16 0, .int .u16 0, .slice none 0 0, .int .u8 0, .int .u8 0, .slice none 0 0, .slice none 0 0] 29)) (fun y => Fm w [(w.heap.size, C3, 29), (w.heap.size + 1, D, 40), (y20.heap.size, #[.int .u8 0, .int .u16 0, .int .i64 (-1)], 50), (y23.heap.size, C4, 29), (y26.heap.size, #[.int .u8 0, .int .u8 0, .int .u8 0, .int .u8 0, .int .u8 0, .int .u8 0, .int .u8 0, .int .u8 0, .int .u8 0, .int .u8 0, .int .u8 0, .int .u8 0, .int .u8 0, .int .u8 0, .int .u8 0, .int .u8 0, .int .u16 0, .int .u16 0, .slice none 0 0, .int .u8 0, .int .u8 0, .slice none 0 0, .slice none 0 0], 29)] y ∧ GO w.heap.size y C3 G2 ∧ GO w.heap.size y C4 s1 ∧ GO w.heap.size y C5 s2 ∧ True) ?_ ?_); (exact ⟨K26.out.1.new _ _, (K26.out.2.1).below (below1 y26 _), (K26.out.2.2.1).below (below1 y26 _), (K26.out.2.2.2.1).below (below1 y26 _), trivial⟩); intro y27 K27)
    | (go_at_call 22; refine (step_aw2 y25 C4 D s1 f (K25.out.2.2.1).lies (hf.out.below K25.out.1.low) hsS.out s2 o2 e2 hs2.out).mono ?_; rintro e y26 ⟨C5, rfl, J, H⟩; have K26 : Hid (Fm w [(w.heap.size, C3, 29), (w.heap.size + 1, D, 40), (y20.heap.size, #[.int .u8 0, .int .u16 0, .int .i64 (-1)], 50), (y23.heap.size, C4, 29)] y26 ∧ GO w.heap.size y26 C3 G2 ∧ GO w.heap.size y26 C4 s1 ∧ GO w.heap.size y26 C5 s2 ∧ True) := ⟨K25.out.1.below H, (K25.out.2.1).below H, (K25.out.2.2.1).below H, J.weak K25.out.1.low.size, trivial⟩; clear H J)
    | ((with_reducible refine at_st rtG y23.heap.size #[.int .u8 0, .int .u8 0, .int .u8 0, .int .u8 0, .int .u8 0, .int .u8 0, .int .u8 0, .int .u8 0, .int .u8 0, .int .u8 0, .int .u8 0, .int .u8 0, .int .u8 0, .int .u8 0, .int .u8 0, .int .u8 0, .int .u16 0, .int .u16 0, .slice none 0 0, .int .u8 0, .int .u8 0, .slice none 0 0, .slice none 0 0] C4 ?_ ?_ ?_ ?_ (.tmp 13) (.tmp 73) ?_ ?_ ?_ ?_ ?_); exact K24.out.1.bx 3 _ _ _ rfl; rfl; exact (K24.out.2.2.1).lies.size.1; exact (K24.out.2.2.1).lies.size.2.1; rfl; rfl; rfl; rfl; intro y25 H25; have K25 : Hid (Fm w [(w.heap.size, C3, 29), (w.heap.size + 1, D, 40), (y20.heap.size, #[.int .u8 0, .int .u16 0, .int .i64 (-1)], 50), (y23.heap.size, C4, 29)] y25 ∧ GO w.heap.size y25 C3 G2 ∧ GO w.heap.size y25 C4 s1 ∧ True) := ⟨K24.out.1.put 3 _ _ _ _ rfl H25.out, (K24.out.2.1).offT (K24.out.1.bx 3 _ _ _ rfl) (by decide) (by decide) H25.out.2.2, (K24.out.2.2.1).offT (K24.out.1.bx 3 _ _ _ rfl) (by decide) (by decide) H25.out.2.2, trivial⟩; clear H25 K24)
    | ((with_reducible refine gen_world (y23.alloc (.cells #[.int .u8 0, .int .u8 0, .int .u8 0, .int .u8 0, .int .u8 0, .int .u8 0, .int .u8 0, .int .u8 0, .int .u8 0, .int .u8 0, .int .u8 0, .int .u8 0, .int .u8 0, .int .u8 0, .int .u8 0, .int .u8 0, .int .u16 0, .int .u16 0, .slice none 0 0, .int .u8 0, .int .u8 0, .slice none 0 0, .slice none 0 0] 29)) (fun y => Fm w [(w.heap.size, C3, 29), (w.heap.size + 1, D, 40), (y20.heap.size, #[.int .u8 0, .int .u16 0, .int .i64 (-1)], 50), (y23.heap.size, #[.int .u8 0, .int .u8 0, .int .u8 0, .int .u8 0, .int .u8 0, .int .u8 0, .int .u8 0, .int .u8 0, .int .u8 0, .int .u8 0, .int .u8 0, .int .u8 0, .int .u8 0, .int .u8 0, .int .u8 0, .int .u8 0, .int .u16 0, .int .u16 0, .slice none 0 0, .int .u8 0, .int .u8 0, .slice none 0 0, .slice none 0 0], 29)] y ∧ GO w.heap.size y C3 G2 ∧ GO w.heap.size y C4 s1 ∧ True) ?_ ?_); (exact ⟨K23.out.1.new _ _, (K23.out.2.1).below (below1 y23 _), (K23.out.2.2.1).below (below1 y23 _), trivial⟩); intro y24 K24)
    | (go_at_call 22; refine (step_aw2 y22 C3 D G2 f (K22.out.2.1).lies (hf.out.below K22.out.1.low) hsG.out s1 o1 e1 hs1.out).mono ?_; rintro e y23 ⟨C4, rfl, J, H⟩; have K23 : Hid (Fm w [(w.heap.size, C3, 29), (w.heap.size + 1, D, 40), (y20.heap.size, #[.int .u8 0, .int .u16 0, .int .i64 (-1)], 50)] y23 ∧ GO w.heap.size y23 C3 G2 ∧ GO w.heap.size y23 C4 s1 ∧ True) := ⟨K22.out.1.below H, (K22.out.2.1).below H, J.weak K22.out.1.low.size, trivial⟩; clear H J)
    | ((with_reducible refine at_st rtFd y20.heap.size #[.int .u8 0, .int .u16 0, .int .i64 0] #[.int .u8 0, .int .u16 0, .int .i64 (-1)] ?_ ?_ ?_ ?_ (.tmp 12) (.tmp 67) ?_ ?_ ?_ ?_ ?_); exact K21.out.1.bx 2 _ _ _ rfl; rfl; rfl; exact dCs_one fd0; rfl; rfl; rfl; rfl; intro y22 H22; have K22 : Hid (Fm w [(w.heap.size, C3, 29), (w.heap.size + 1, D, 40), (y20.heap.size, #[.int .u8 0, .int .u16 0, .int .i64 (-1)], 50)] y22 ∧ GO w.heap.size y22 C3 G2 ∧ True) := ⟨K21.out.1.put 2 _ _ _ _ rfl H22.out, (K21.out.2.1).offT (K21.out.1.bx 2 _ _ _ rfl) (by decide) (by decide) H22.out.2.2, trivial⟩; clear H22 K21)
    | ((with_reducible refine gen_world (y20.alloc (.cells #[.int .u8 0, .int .u16 0, .int .i64 0] 50)) (fun y => Fm w [(w.heap.size, C3, 29), (w.heap.size + 1, D, 40), (y20.heap.size, #[.int .u8 0, .int .u16 0, .int .i64 0], 50)] y ∧ GO w.heap.size y C3 G2 ∧ True) ?_ ?_); (exact ⟨K20.out.1.new _ _, (K20.out.2.1).below (below1 y20 _), trivial⟩); intro y21 K21)
    | ((with_reducible refine at_bu #[(2, .const (.int .i64 (-1)))] [(2, .int .i64 (-1))] #[.int .u8 0, .int .u16 0, .int .i64 (-1)] ?_ ?_ ?_ builtD0 ?_); kernel_rfl; rfl; kernel_rfl)
    | ((with_reducible refine at_load rtG (w.heap.size) C3 ?_ ?_ (.tmp 3) ?_ ?_ ?_ ?_); (first | exact K22.out.1.bx 0 _ _ _ rfl); (first | exact (K22.out.2.1).lies.size.1); kernel_rfl; rfl; rfl)
    | ((with_reducible refine at_load rtFn (w.heap.size + 1) D ?_ ?_ (.tmp 4) ?_ ?_ ?_ ?_); (first | exact K25.out.1.bx 1 _ _ _ rfl | exact K22.out.1.bx 1 _ _ _ rfl); (first | exact gD.out); kernel_rfl; rfl; rfl)
    | ((with_reducible refine at_load rtFd (y20.heap.size) #[.int .u8 0, .int .u16 0, .int .i64 (-1)] ?_ ?_ (.tmp 12) ?_ ?_ ?_ ?_); (first | exact K25.out.1.bx 2 _ _ _ rfl | exact K22.out.1.bx 2 _ _ _ rfl); (first | rfl); kernel_rfl; rfl; rfl)
    | ((with_reducible refine at_load rtG (y23.heap.size) C4 ?_ ?_ (.tmp 13) ?_ ?_ ?_ ?_); (first | exact K25.out.1.bx 3 _ _ _ rfl); (first | exact (K25.out.2.2.1).lies.size.1); kernel_rfl; rfl; rfl))
  go_ret
  exact ⟨rfl, K28.out.1.low⟩

theorem twice_10 (w : World) (C D : Array Value) (g : Gm) (f : Fo) (a : Int) (hg : Hid (GL w C g)) (hf : Hid (FL w D f)) (ha : -9223372036854775808 ≤ a ∧ a ≤ 9223372036854775807) (hv : Hid (vasG g.st.length g.pg.length g.me.length f.by_.length = false)) (hm : Hid (g.may = true)) (hs : Hid (smaG g f)) (P X Y : Nat) (a1 a2 : Int) (hP : Hid ((if a < 0 then -(a + 1) else a) % 16 = (P : Int))) (wa1 : Int.tdiv a 16 = a1) (wa2 : Int.tdiv a 240 = a2) (ha1 : -9223372036854775808 ≤ a1 ∧ a1 ≤ 9223372036854775807) (ha2 : -9223372036854775808 ≤ a2 ∧ a2 ≤ 9223372036854775807) (hX : Hid ((if a1 < 0 then -(a1 + 1) else a1) % 15 = (X : Int))) (hY : Hid ((if a2 < 0 then -(a2 + 1) else a2) % 15 = (Y : Int))) (hP1 : P < 16) (hX1 : X < 15) (hY1 : Y < 15) (b1 b2 : UInt8) (hb1 : b1.toNat = 208 + X) (hb2 : b2.toNat = 16 * Y + P) (G2 : Gm) (hG2 : Hid (G2 = { g with pc := 512, me := (((g.me.set 0 b1).set 1 b2).set 2 b1).set 3 b2 })) (hsG : Hid (smaG G2 f)) (s1 : Gm) (o1 e1 : Nat) (hs1 : Hid (stepG G2 f fd0 = (s1, o1, e1))) (he : e1 = 0) (ho : o1 = 1) (hsS : Hid (smaG s1 f)) (s2 : Gm) (o2 e2 : Nat) (hs2 : Hid (stepG s1 f fd0 = (s2, o2, e2))) (ho2 : o2 = 1) (hva : Hid ((s1.v.getD 15 0).toNat = 1)) (hvb : Hid ((s2.v.getD 15 0).toNat = 0)) (X1 X2 : ByteArray) (xg : Hid (sB G2.pg = X2)) (xa : Hid (sB s1.pg = X1)) (xb : Hid (sB s2.pg = X2)) (hne : X1.toList ≠ X2.toList) :
    Calls Try.prog 7 #[.agg C, .agg D, .int .i64 a] w fun e w' => e = .returned (.bool true) ∧ Below w.heap.size w w' := by
  have gC : Hid (C.size = 23) := hg.out.size.1
  have gD : Hid (D.size = 18) := hf.out.size
  have nst : Hid (g.st.length ≤ 4000000000 ∧ g.pg.length ≤ 4000000000 ∧ g.me.length ≤ 4000000000) := by have := hs.out; unfold smaG at this; exact ⟨by omega, by omega, by omega⟩
  have hml' : Hid (g.me.length = 3232) := (may_iff.1 hm.out).2.1
  have w1' : IntKind.i64.wrap (Int.tdiv a 16) = a1 := by rw [wa1, IntKind.wrap_i64]; omega
  have w2' : IntKind.i64.wrap (Int.tdiv a 240) = a2 := by rw [wa2, IntKind.wrap_i64]; omega
  have l1 : (P : Int) < 16 := by omega
  have l2 : (X : Int) < 15 := by omega
  have l3 : (Y : Int) < 15 := by omega
  obtain ⟨B1, hB1⟩ : ∃ x, b1.toNat = x := ⟨_, rfl⟩
  obtain ⟨B2, hB2⟩ : ∃ x, b2.toNat = x := ⟨_, rfl⟩
  have w7 : (208 : Int) + (X : Int) = (B1 : Int) := by omega
  have w7' : IntKind.u8.wrap ((208 : Int) + (X : Int)) = (B1 : Int) := by rw [IntKind.wrap_u8]; omega
  obtain ⟨Z, hZ⟩ : ∃ x, 16 * Y = x := ⟨_, rfl⟩
  have w8 : (16 : Int) * (Y : Int) = (Z : Int) := by omega
  have w9 : (Z : Int) + (P : Int) = (B2 : Int) := by omega
  have l4 : (Z : Int) < 256 := by omega
  have l5 : (B1 : Int) < 256 := by omega
  have l6 : (B2 : Int) < 256 := by omega
  have hBB : Hid (b1.toNat = B1 ∧ b2.toNat = B2) := ⟨hB1, hB2⟩
  clear hP1 hX1 hY1 hb1 hb2 hB1 hB2 hZ
  have q1 : ((e1 : Int) != 0) = false := by simp; omega
  have q2 : ((o1 : Int) != 1) = false := by simp; omega
  have q3 : ((o2 : Int) == 1) = true := by simp; omega
  have q4 : (X2.toList == X2.toList) = true := by simp
  have q5 : (X1.toList == X2.toList) = false := by simpa using hne
  clear hne
  clear he ho ho2
  go_enter Try.func7, Try.ntmps7
  go_upto_region 11 with (first
    | ((with_reducible refine at_st rtG (w.heap.size) C C2 ?_ ?_ ?_ ?_ (.tmp 3) (.tmp 37) ?_ ?_ ?_ ?_ ?_); exact K4.out.1.bx 0 _ _ _ rfl; exact gC.out; exact (K4.out.2.1).lies.size.1; exact (K4.out.2.1).lies.size.2.1; rfl; rfl; rfl; rfl; intro y5 H5; have K5 : Hid (Fm w [(w.heap.size, C2, 29), (w.heap.size + 1, D, 40)] y5 ∧ GO w.heap.size y5 C2 g ∧ True) := ⟨K4.out.1.put 0 _ _ _ _ rfl H5.out, (K4.out.2.1).offT (K4.out.1.bx 0 _ _ _ rfl) (by decide) (by decide) H5.out.2.2, trivial⟩; clear H5)
    | (go_at_call 25; refine (copied_any y3 C g (hg.out.below K3.out.1.low) nst.out.1 nst.out.2.1 nst.out.2.2).mono ?_; rintro e y4 ⟨C2, rfl, H⟩; have K4 : Hid (Fm w [(w.heap.size, C, 29), (w.heap.size + 1, D, 40)] y4 ∧ GO w.heap.size y4 C2 g ∧ True) := ⟨K3.out.1.below H.out.2, H.out.1.weak K3.out.1.low.size, trivial⟩; clear H)
    | (go_at_call 24; with_reducible refine (pick_any y3 a2 15 ha2 (by decide)).mono ?_; rintro e yp ⟨rfl, ep⟩; replace ep := ep.symm; subst ep; rw [hY.out])
    | (go_at_call 24; with_reducible refine (pick_any y3 a1 15 ha1 (by decide)).mono ?_; rintro e yp ⟨rfl, ep⟩; replace ep := ep.symm; subst ep; rw [hX.out])
    | (go_at_call 24; with_reducible refine (pick_any y3 a 16 ha (by decide)).mono ?_; rintro e yp ⟨rfl, ep⟩; replace ep := ep.symm; subst ep; rw [hP.out])
    | (go_at_call 20; refine (rcheck_gl y2 C g (hg.out.below K2.out.1.low)).mono ?_; rintro e y3 ⟨rfl, H⟩; have K3 : Hid (Fm w [(w.heap.size, C, 29), (w.heap.size + 1, D, 40)] y3 ∧ True) := ⟨K2.out.1.below H, trivial⟩; rw [hm.out]; clear H)
    | (go_at_call 15; refine (vast_gl y1 C D g f (hg.out.below K1.out.1.low) (hf.out.below K1.out.1.low)).mono ?_; rintro e y2 ⟨rfl, H⟩; have K2 : Hid (Fm w [(w.heap.size, C, 29), (w.heap.size + 1, D, 40)] y2 ∧ True) := ⟨K1.out.1.below H, trivial⟩; rw [hv.out]; clear H)
    | (go_at_call 8; refine (awake_any y0).mono ?_; rintro e y1 ⟨rfl, H⟩; have K1 : Hid (Fm w [(w.heap.size, C, 29), (w.heap.size + 1, D, 40)] y1 ∧ True) := ⟨K0.out.1.below H, trivial⟩; clear H)
    | ((with_reducible refine gen_world ((w.alloc (.cells C 29)).alloc (.cells D 40)) (fun y => Fm w [(w.heap.size, C, 29), (w.heap.size + 1, D, 40)] y ∧ True) ?_ ?_); (exact ⟨Fm.two w _ _ _ _ , trivial⟩); intro y0 K0)
    | ((with_reducible refine at_load rtG (w.heap.size) C ?_ ?_ (.tmp 3) ?_ ?_ ?_ ?_); (first | exact K3.out.1.bx 0 _ _ _ rfl | exact K2.out.1.bx 0 _ _ _ rfl | exact K1.out.1.bx 0 _ _ _ rfl); (first | exact gC.out | exact (K3.out.2.1).lies.size.1 | exact (K2.out.2.1).lies.size.1 | exact (K1.out.2.1).lies.size.1); kernel_rfl; rfl; rfl)
    | ((with_reducible refine at_load rtFn (w.heap.size + 1) D ?_ ?_ (.tmp 4) ?_ ?_ ?_ ?_); (first | exact K1.out.1.bx 1 _ _ _ rfl); (first | exact gD.out); kernel_rfl; rfl; rfl))
  obtain ⟨gM, cM, hM⟩ := (K5.out.2.1).memC (by rw [hml'.out]; decide)
  rw [hml'.out] at hM
  have c22 := (K5.out.1.bx 0 _ _ _ rfl).c 22 _ hM
  have c17 := (K5.out.1.bx 0 _ _ _ rfl).c 17 _ ((K5.out.2.1).cells).choose_spec.choose_spec.choose_spec.choose_spec.1
  have z17 := (K5.out.1.bx 0 _ _ _ rfl).fz 17
  obtain ⟨lM, ⟨csM, xM⟩, ⟨v0, d0⟩, f0, _⟩ := (K5.out.2.1).setMe hM 0 (by rw [hml'.out]; decide)
  obtain ⟨_, _, ⟨v1, d1⟩, f1, _⟩ := (K5.out.2.1).setMe hM 1 (by rw [hml'.out]; decide)
  obtain ⟨C3, hC3⟩ : ∃ x, Hid (x = C2.setIfInBounds 17 (.int .u16 512)) := ⟨_, (rfl : C2.setIfInBounds 17 (.int .u16 512) = _)⟩
  have hM3 : Hid (C3[22]? = some (.slice (some ⟨gM, 0, none⟩) 3232 cM)) := by rw [hC3.out]; show _ = _; rw [Array.getElem?_setIfInBounds_ne (by decide)]; exact hM
  have ix0 := fun v => idxB .i64 gM 0 3232 cM 0 v (by decide)
  have ix1 := fun v => idxB .i64 gM 0 3232 cM 1 v (by decide)
  rw [show ((0 : Nat) : Int) = 0 from rfl] at ix0
  rw [show ((1 : Nat) : Int) = 1 from rfl] at ix1
  simp only [Nat.zero_add] at ix0 ix1
  have A1 : Hid (Fm w [(w.heap.size, C3, 29), (w.heap.size + 1, D, 40)] (((y5.setCell ⟨w.heap.size, 17, none⟩ (.int .u16 512)).setCell ⟨gM, 0, none⟩ (.int .u8 (B1 : Int))).setCell ⟨gM, 1, none⟩ (.int .u8 (B2 : Int))) ∧ GO w.heap.size (((y5.setCell ⟨w.heap.size, 17, none⟩ (.int .u16 512)).setCell ⟨gM, 0, none⟩ (.int .u8 (B1 : Int))).setCell ⟨gM, 1, none⟩ (.int .u8 (B2 : Int))) C3 { g with pc := 512, me := (g.me.set 0 b1).set 1 b2 } ∧ True) := by
    rw [← hBB.out.1, ← hBB.out.2]
    have F1 := K5.out.1.setCell 0 _ _ _ _ rfl 17 (.int .u16 512) hC3.out.symm
    have J1 := ((K5.out.2.1).offT (K5.out.1.bx 0 _ _ _ rfl) (by decide) (by decide) (fun q hq => heap_setCell_other y5 ⟨w.heap.size, 17, none⟩ q (.int .u16 512) hq)).setPC 512 (by decide)
    rw [show C2.setIfInBounds 17 (.int .u16 ((512 : Nat) : Int)) = C3 from hC3.out.symm] at J1
    obtain ⟨lb, ⟨cs1, x1⟩, _, _, J2⟩ := J1.setMe hM3.out 0 (by show 0 < g.me.length; rw [hml'.out]; decide)
    have F2 := F1.offU x1 lb boxT2 0 (.int .u8 (b1.toNat : Int))
    obtain ⟨_, ⟨cs2, x2⟩, _, _, J3⟩ := (J2 b1).setMe hM3.out 1 (by show 1 < (g.me.set 0 b1).length; rw [List.length_set, hml'.out]; decide)
    exact ⟨F2.offU x2 lb boxT2 1 _, J3 b2, trivial⟩
  go_upto_region 14 with (fail)
  generalize ((y5.setCell ⟨w.heap.size, 17, none⟩ (.int .u16 512)).setCell ⟨gM, 0, none⟩ (.int .u8 (B1 : Int))).setCell ⟨gM, 1, none⟩ (.int .u8 (B2 : Int)) = ya at A1 ⊢
  clear c22 c17 z17 d0 f0 d1 f1 hM xM lM ix0 ix1
  have c22a := (A1.out.1.bx 0 _ _ _ rfl).c 22 _ hM3.out
  have hla : Hid (((g.me.set 0 b1).set 1 b2).length = 3232) := by show _ = _; simp only [List.length_set]; exact hml'.out
  obtain ⟨lMa, ⟨csa, xa⟩, ⟨vza, dza⟩, fza, Ja⟩ := (A1.out.2.1).setMe hM3.out 2 (by show 2 < ((g.me.set 0 b1).set 1 b2).length; rw [hla.out]; decide)
  have dra := (A1.out.2.1).meAt hM3.out 0 (by show 0 < ((g.me.set 0 b1).set 1 b2).length; rw [hla.out]; decide)
  rw [show ((({ g with pc := 512, me := (g.me.set 0 b1).set 1 b2 } : Gm).me.getD 0 0).toNat : Int) = (B1 : Int) from by have h := hBB.out; have h0 := hml'.out; show ((((g.me.set 0 b1).set 1 b2).getD 0 0).toNat : Int) = _; rw [show ((g.me.set 0 b1).set 1 b2).getD 0 0 = b1 from by simp [List.getD, h0]]; omega] at dra
  have ixaa := fun v => idxB .i64 gM 0 3232 cM 0 v (by decide)
  have ixba := fun v => idxB .i64 gM 0 3232 cM 2 v (by decide)
  rw [show ((0 : Nat) : Int) = 0 from rfl] at ixaa
  rw [show ((2 : Nat) : Int) = 2 from rfl] at ixba
  simp only [Nat.zero_add] at ixaa ixba
  have A2' : Hid (∀ n, Fm w [(w.heap.size, C3, 29), (w.heap.size + 1, D, 40)] ((ya.drewN n).setCell ⟨gM, 2, none⟩ (.int .u8 (B1 : Int))) ∧ GO w.heap.size ((ya.drewN n).setCell ⟨gM, 2, none⟩ (.int .u8 (B1 : Int))) C3 { g with pc := 512, me := ((g.me.set 0 b1).set 1 b2).set 2 b1 } ∧ True) := by
    intro n
    rw [← hBB.out.1]
    have F := A1.out.1.below (below_drewN (n := n) (Below.refl _ _))
    have J := (A1.out.2.1).below (below_drewN (n := n) (Below.refl _ _))
    obtain ⟨lb, ⟨cs', x'⟩, _, _, J'⟩ := J.setMe hM3.out 2 (by show 2 < ((g.me.set 0 b1).set 1 b2).length; rw [hla.out]; decide)
    skip
    exact ⟨F.offU x' lb boxT2 2 _, J' b1, trivial⟩
  clear Ja xa lMa
  go_wp2
  refine region_class_tail 7 (fun y => ∃ n, y = ya.drewN n) (by kernel_rfl) (by kernel_rfl) ⟨1, rfl⟩ ?_
  dsimp only [List.take, List.drop]
  repeat (go_big_quiet_step (fail))
  refine wpQuiet_nil ?_
  rintro _ ⟨nqa, rfl⟩
  go_upto_region 15 with (fail)
  have A2 := A2'.out nqa
  generalize (ya.drewN nqa).setCell ⟨gM, 2, none⟩ (.int .u8 (B1 : Int)) = yb at A2 ⊢
  replace A2 : Hid _ := A2
  clear c22a dza fza dra A2'
  have c22b := (A2.out.1.bx 0 _ _ _ rfl).c 22 _ hM3.out
  have hlb : Hid ((((g.me.set 0 b1).set 1 b2).set 2 b1).length = 3232) := by show _ = _; simp only [List.length_set]; exact hml'.out
  obtain ⟨lMb, ⟨csb, xb⟩, ⟨vzb, dzb⟩, fzb, Jb⟩ := (A2.out.2.1).setMe hM3.out 3 (by show 3 < (((g.me.set 0 b1).set 1 b2).set 2 b1).length; rw [hlb.out]; decide)
  have drb := (A2.out.2.1).meAt hM3.out 1 (by show 1 < (((g.me.set 0 b1).set 1 b2).set 2 b1).length; rw [hlb.out]; decide)
  rw [show ((({ g with pc := 512, me := ((g.me.set 0 b1).set 1 b2).set 2 b1 } : Gm).me.getD 1 0).toNat : Int) = (B2 : Int) from by have h := hBB.out; have h0 := hml'.out; show (((((g.me.set 0 b1).set 1 b2).set 2 b1).getD 1 0).toNat : Int) = _; rw [show (((g.me.set 0 b1).set 1 b2).set 2 b1).getD 1 0 = b2 from by simp [List.getD, h0]]; omega] at drb
  have ixab := fun v => idxB .i64 gM 0 3232 cM 1 v (by decide)
  have ixbb := fun v => idxB .i64 gM 0 3232 cM 3 v (by decide)
  rw [show ((1 : Nat) : Int) = 1 from rfl] at ixab
  rw [show ((3 : Nat) : Int) = 3 from rfl] at ixbb
  simp only [Nat.zero_add] at ixab ixbb
  have A3' : Hid (∀ n, Fm w [(w.heap.size, C3, 29), (w.heap.size + 1, D, 40)] ((yb.drewN n).setCell ⟨gM, 3, none⟩ (.int .u8 (B2 : Int))) ∧ GO w.heap.size ((yb.drewN n).setCell ⟨gM, 3, none⟩ (.int .u8 (B2 : Int))) C3 G2 ∧ True) := by
    intro n
    rw [← hBB.out.2]
    have F := A2.out.1.below (below_drewN (n := n) (Below.refl _ _))
    have J := (A2.out.2.1).below (below_drewN (n := n) (Below.refl _ _))
    obtain ⟨lb, ⟨cs', x'⟩, _, _, J'⟩ := J.setMe hM3.out 3 (by show 3 < (((g.me.set 0 b1).set 1 b2).set 2 b1).length; rw [hlb.out]; decide)
    rw [hG2.out]
    exact ⟨F.offU x' lb boxT2 3 _, J' b2, trivial⟩
  clear Jb xb lMb
  go_wp2
  refine region_class_tail 7 (fun y => ∃ n, y = yb.drewN n) (by kernel_rfl) (by kernel_rfl) ⟨1, rfl⟩ ?_
  dsimp only [List.take, List.drop]
  repeat (go_big_quiet_step (fail))
  refine wpQuiet_nil ?_
  rintro _ ⟨nqb, rfl⟩
  go_upto_region 16 with (fail)
  have A3 := A3'.out nqb
  generalize (yb.drewN nqb).setCell ⟨gM, 3, none⟩ (.int .u8 (B2 : Int)) = y20 at A3 ⊢
  replace A3 : Hid _ := A3
  clear c22b dzb fzb drb A3'
  have K20 : Hid (Fm w [(w.heap.size, C3, 29), (w.heap.size + 1, D, 40)] y20 ∧ GO w.heap.size y20 C3 G2 ∧ True) := A3
  clear A3 A1 A2
  go_wp2_with (first
    | ((with_reducible refine at_st rtG y26.heap.size #[.int .u8 0, .int .u8 0, .int .u8 0, .int .u8 0, .int .u8 0, .int .u8 0, .int .u8 0, .int .u8 0, .int .u8 0, .int .u8 0, .int .u8 0, .int .u8 0, .int .u8 0, .int .u8 0, .int .u8 0, .int .u8 0, .int .u16 0, .int .u16 0, .slice none 0 0, .int .u8 0, .int .u8 0, .slice none 0 0, .slice none 0 0] C5 ?_ ?_ ?_ ?_ (.tmp 16) (.tmp 96) ?_ ?_ ?_ ?_ ?_); exact K27.out.1.bx 4 _ _ _ rfl; rfl; exact (K27.out.2.2.2.1).lies.size.1; exact (K27.out.2.2.2.1).lies.size.2.1; rfl; rfl; rfl; rfl; intro y28 H28; have K28 : Hid (Fm w [(w.heap.size, C3, 29), (w.heap.size + 1, D, 40), (y20.heap.size, #[.int .u8 0, .int .u16 0, .int .i64 (-1)], 50), (y23.heap.size, C4, 29), (y26.heap.size, C5, 29)] y28 ∧ GO w.heap.size y28 C3 G2 ∧ GO w.heap.size y28 C4 s1 ∧ GO w.heap.size y28 C5 s2 ∧ True) := ⟨K27.out.1.put 4 _ _ _ _ rfl H28.out, (K27.out.2.1).offT (K27.out.1.bx 4 _ _ _ rfl) (by decide) (by decide) H28.out.2.2, (K27.out.2.2.1).offT (K27.out.1.bx 4 _ _ _ rfl) (by decide) (by decide) H28.out.2.2, (K27.out.2.2.2.1).offT (K27.out.1.bx 4 _ _ _ rfl) (by decide) (by decide) H28.out.2.2, trivial⟩; clear H28 K27; obtain ⟨pg1, pg2, pg3, eg, vg⟩ := (K28.out.2.1).page; obtain ⟨pa1, pa2, pa3, ea, va⟩ := (K28.out.2.2.1).page; obtain ⟨pb1, pb2, pb3, eb, vb⟩ := (K28.out.2.2.2.1).page; have cg21 := (K28.out.1.bx 0 _ _ _ rfl).c 21 _ eg; have ca21 := (K28.out.1.bx 3 _ _ _ rfl).c 21 _ ea; have cb21 := (K28.out.1.bx 4 _ _ _ rfl).c 21 _ eb; have ra := (K28.out.2.2.1).regs.2.2.1; have rb := (K28.out.2.2.2.1).regs.2.2.1; rw [hva.out, show ((1 : Nat) : Int) = 1 from rfl] at ra; rw [hvb.out, show ((0 : Nat) : Int) = 0 from rfl] at rb; have ca15 := (K28.out.1.bx 3 _ _ _ rfl).c 15 _ ra; have cb15 := (K28.out.1.bx 4 _ _ _ rfl).c 15 _ rb; rw [xg.out] at vg; rw [xa.out] at va; rw [xb.out] at vb; clear eg ea eb ra rb)
    | ((with_reducible refine gen_world (y26.alloc (.cells #[.int .u8 0, .int .u8 0, .int .u8 0, .int .u8 0, .int .u8 0, .int .u8 0, .int .u8 0, .int .u8 0, .int .u8 0, .int .u8 0, .int .u8 0, .int .u8 0, .int .u8 0, .int .u8 0, .int .u8 0, .int .u8 0, .int .u16 0, .int .u16 0, .slice none 0 0, .int .u8 0, .int .u8 0, .slice none 0 0, .slice none 0 0] 29)) (fun y => Fm w [(w.heap.size, C3, 29), (w.heap.size + 1, D, 40), (y20.heap.size, #[.int .u8 0, .int .u16 0, .int .i64 (-1)], 50), (y23.heap.size, C4, 29), (y26.heap.size, #[.int .u8 0, .int .u8 0, .int .u8 0, .int .u8 0, .int .u8 0, .int .u8 0, .int .u8 0, .int .u8 0, .int .u8 0, .int .u8 0, .int .u8 0, .int .u8 0, .int .u8 0, .int .u8 0, .int .u8 0, .int .u8 0, .int .u16 0, .int .u16 0, .slice none 0 0, .int .u8 0, .int .u8 0, .slice none 0 0, .slice none 0 0], 29)] y ∧ GO w.heap.size y C3 G2 ∧ GO w.heap.size y C4 s1 ∧ GO w.heap.size y C5 s2 ∧ True) ?_ ?_); (exact ⟨K26.out.1.new _ _, (K26.out.2.1).below (below1 y26 _), (K26.out.2.2.1).below (below1 y26 _), (K26.out.2.2.2.1).below (below1 y26 _), trivial⟩); intro y27 K27)
    | (go_at_call 22; refine (step_aw2 y25 C4 D s1 f (K25.out.2.2.1).lies (hf.out.below K25.out.1.low) hsS.out s2 o2 e2 hs2.out).mono ?_; rintro e y26 ⟨C5, rfl, J, H⟩; have K26 : Hid (Fm w [(w.heap.size, C3, 29), (w.heap.size + 1, D, 40), (y20.heap.size, #[.int .u8 0, .int .u16 0, .int .i64 (-1)], 50), (y23.heap.size, C4, 29)] y26 ∧ GO w.heap.size y26 C3 G2 ∧ GO w.heap.size y26 C4 s1 ∧ GO w.heap.size y26 C5 s2 ∧ True) := ⟨K25.out.1.below H, (K25.out.2.1).below H, (K25.out.2.2.1).below H, J.weak K25.out.1.low.size, trivial⟩; clear H J)
    | ((with_reducible refine at_st rtG y23.heap.size #[.int .u8 0, .int .u8 0, .int .u8 0, .int .u8 0, .int .u8 0, .int .u8 0, .int .u8 0, .int .u8 0, .int .u8 0, .int .u8 0, .int .u8 0, .int .u8 0, .int .u8 0, .int .u8 0, .int .u8 0, .int .u8 0, .int .u16 0, .int .u16 0, .slice none 0 0, .int .u8 0, .int .u8 0, .slice none 0 0, .slice none 0 0] C4 ?_ ?_ ?_ ?_ (.tmp 13) (.tmp 73) ?_ ?_ ?_ ?_ ?_); exact K24.out.1.bx 3 _ _ _ rfl; rfl; exact (K24.out.2.2.1).lies.size.1; exact (K24.out.2.2.1).lies.size.2.1; rfl; rfl; rfl; rfl; intro y25 H25; have K25 : Hid (Fm w [(w.heap.size, C3, 29), (w.heap.size + 1, D, 40), (y20.heap.size, #[.int .u8 0, .int .u16 0, .int .i64 (-1)], 50), (y23.heap.size, C4, 29)] y25 ∧ GO w.heap.size y25 C3 G2 ∧ GO w.heap.size y25 C4 s1 ∧ True) := ⟨K24.out.1.put 3 _ _ _ _ rfl H25.out, (K24.out.2.1).offT (K24.out.1.bx 3 _ _ _ rfl) (by decide) (by decide) H25.out.2.2, (K24.out.2.2.1).offT (K24.out.1.bx 3 _ _ _ rfl) (by decide) (by decide) H25.out.2.2, trivial⟩; clear H25 K24)
    | ((with_reducible refine gen_world (y23.alloc (.cells #[.int .u8 0, .int .u8 0, .int .u8 0, .int .u8 0, .int .u8 0, .int .u8 0, .int .u8 0, .int .u8 0, .int .u8 0, .int .u8 0, .int .u8 0, .int .u8 0, .int .u8 0, .int .u8 0, .int .u8 0, .int .u8 0, .int .u16 0, .int .u16 0, .slice none 0 0, .int .u8 0, .int .u8 0, .slice none 0 0, .slice none 0 0] 29)) (fun y => Fm w [(w.heap.size, C3, 29), (w.heap.size + 1, D, 40), (y20.heap.size, #[.int .u8 0, .int .u16 0, .int .i64 (-1)], 50), (y23.heap.size, #[.int .u8 0, .int .u8 0, .int .u8 0, .int .u8 0, .int .u8 0, .int .u8 0, .int .u8 0, .int .u8 0, .int .u8 0, .int .u8 0, .int .u8 0, .int .u8 0, .int .u8 0, .int .u8 0, .int .u8 0, .int .u8 0, .int .u16 0, .int .u16 0, .slice none 0 0, .int .u8 0, .int .u8 0, .slice none 0 0, .slice none 0 0], 29)] y ∧ GO w.heap.size y C3 G2 ∧ GO w.heap.size y C4 s1 ∧ True) ?_ ?_); (exact ⟨K23.out.1.new _ _, (K23.out.2.1).below (below1 y23 _), (K23.out.2.2.1).below (below1 y23 _), trivial⟩); intro y24 K24)
    | (go_at_call 22; refine (step_aw2 y22 C3 D G2 f (K22.out.2.1).lies (hf.out.below K22.out.1.low) hsG.out s1 o1 e1 hs1.out).mono ?_; rintro e y23 ⟨C4, rfl, J, H⟩; have K23 : Hid (Fm w [(w.heap.size, C3, 29), (w.heap.size + 1, D, 40), (y20.heap.size, #[.int .u8 0, .int .u16 0, .int .i64 (-1)], 50)] y23 ∧ GO w.heap.size y23 C3 G2 ∧ GO w.heap.size y23 C4 s1 ∧ True) := ⟨K22.out.1.below H, (K22.out.2.1).below H, J.weak K22.out.1.low.size, trivial⟩; clear H J)
    | ((with_reducible refine at_st rtFd y20.heap.size #[.int .u8 0, .int .u16 0, .int .i64 0] #[.int .u8 0, .int .u16 0, .int .i64 (-1)] ?_ ?_ ?_ ?_ (.tmp 12) (.tmp 67) ?_ ?_ ?_ ?_ ?_); exact K21.out.1.bx 2 _ _ _ rfl; rfl; rfl; exact dCs_one fd0; rfl; rfl; rfl; rfl; intro y22 H22; have K22 : Hid (Fm w [(w.heap.size, C3, 29), (w.heap.size + 1, D, 40), (y20.heap.size, #[.int .u8 0, .int .u16 0, .int .i64 (-1)], 50)] y22 ∧ GO w.heap.size y22 C3 G2 ∧ True) := ⟨K21.out.1.put 2 _ _ _ _ rfl H22.out, (K21.out.2.1).offT (K21.out.1.bx 2 _ _ _ rfl) (by decide) (by decide) H22.out.2.2, trivial⟩; clear H22 K21)
    | ((with_reducible refine gen_world (y20.alloc (.cells #[.int .u8 0, .int .u16 0, .int .i64 0] 50)) (fun y => Fm w [(w.heap.size, C3, 29), (w.heap.size + 1, D, 40), (y20.heap.size, #[.int .u8 0, .int .u16 0, .int .i64 0], 50)] y ∧ GO w.heap.size y C3 G2 ∧ True) ?_ ?_); (exact ⟨K20.out.1.new _ _, (K20.out.2.1).below (below1 y20 _), trivial⟩); intro y21 K21)
    | ((with_reducible refine at_bu #[(2, .const (.int .i64 (-1)))] [(2, .int .i64 (-1))] #[.int .u8 0, .int .u16 0, .int .i64 (-1)] ?_ ?_ ?_ builtD0 ?_); kernel_rfl; rfl; kernel_rfl)
    | ((with_reducible refine at_load rtG (w.heap.size) C3 ?_ ?_ (.tmp 3) ?_ ?_ ?_ ?_); (first | exact K22.out.1.bx 0 _ _ _ rfl); (first | exact (K22.out.2.1).lies.size.1); kernel_rfl; rfl; rfl)
    | ((with_reducible refine at_load rtFn (w.heap.size + 1) D ?_ ?_ (.tmp 4) ?_ ?_ ?_ ?_); (first | exact K25.out.1.bx 1 _ _ _ rfl | exact K22.out.1.bx 1 _ _ _ rfl); (first | exact gD.out); kernel_rfl; rfl; rfl)
    | ((with_reducible refine at_load rtFd (y20.heap.size) #[.int .u8 0, .int .u16 0, .int .i64 (-1)] ?_ ?_ (.tmp 12) ?_ ?_ ?_ ?_); (first | exact K25.out.1.bx 2 _ _ _ rfl | exact K22.out.1.bx 2 _ _ _ rfl); (first | rfl); kernel_rfl; rfl; rfl)
    | ((with_reducible refine at_load rtG (y23.heap.size) C4 ?_ ?_ (.tmp 13) ?_ ?_ ?_ ?_); (first | exact K25.out.1.bx 3 _ _ _ rfl); (first | exact (K25.out.2.2.1).lies.size.1); kernel_rfl; rfl; rfl))
  go_ret
  exact ⟨rfl, K28.out.1.low⟩

theorem twice_11 (w : World) (C D : Array Value) (g : Gm) (f : Fo) (a : Int) (hg : Hid (GL w C g)) (hf : Hid (FL w D f)) (ha : -9223372036854775808 ≤ a ∧ a ≤ 9223372036854775807) (hv : Hid (vasG g.st.length g.pg.length g.me.length f.by_.length = false)) (hm : Hid (g.may = true)) (hs : Hid (smaG g f)) (P X Y : Nat) (a1 a2 : Int) (hP : Hid ((if a < 0 then -(a + 1) else a) % 16 = (P : Int))) (wa1 : Int.tdiv a 16 = a1) (wa2 : Int.tdiv a 240 = a2) (ha1 : -9223372036854775808 ≤ a1 ∧ a1 ≤ 9223372036854775807) (ha2 : -9223372036854775808 ≤ a2 ∧ a2 ≤ 9223372036854775807) (hX : Hid ((if a1 < 0 then -(a1 + 1) else a1) % 15 = (X : Int))) (hY : Hid ((if a2 < 0 then -(a2 + 1) else a2) % 15 = (Y : Int))) (hP1 : P < 16) (hX1 : X < 15) (hY1 : Y < 15) (b1 b2 : UInt8) (hb1 : b1.toNat = 208 + X) (hb2 : b2.toNat = 16 * Y + P) (G2 : Gm) (hG2 : Hid (G2 = { g with pc := 512, me := (((g.me.set 0 b1).set 1 b2).set 2 b1).set 3 b2 })) (hsG : Hid (smaG G2 f)) (s1 : Gm) (o1 e1 : Nat) (hs1 : Hid (stepG G2 f fd0 = (s1, o1, e1))) (he : e1 = 0) (ho : o1 = 1) (hsS : Hid (smaG s1 f)) (s2 : Gm) (o2 e2 : Nat) (hs2 : Hid (stepG s1 f fd0 = (s2, o2, e2))) (ho2 : o2 = 1) (hva : Hid ((s1.v.getD 15 0).toNat = 1)) (hvb : Hid ((s2.v.getD 15 0).toNat = 1)) (X1 X2 : ByteArray) (xg : Hid (sB G2.pg = X2)) (xa : Hid (sB s1.pg = X1)) (xb : Hid (sB s2.pg = X2)) (hne : X1.toList ≠ X2.toList) :
    Calls Try.prog 7 #[.agg C, .agg D, .int .i64 a] w fun e w' => e = .returned (.bool true) ∧ Below w.heap.size w w' := by
  have gC : Hid (C.size = 23) := hg.out.size.1
  have gD : Hid (D.size = 18) := hf.out.size
  have nst : Hid (g.st.length ≤ 4000000000 ∧ g.pg.length ≤ 4000000000 ∧ g.me.length ≤ 4000000000) := by have := hs.out; unfold smaG at this; exact ⟨by omega, by omega, by omega⟩
  have hml' : Hid (g.me.length = 3232) := (may_iff.1 hm.out).2.1
  have w1' : IntKind.i64.wrap (Int.tdiv a 16) = a1 := by rw [wa1, IntKind.wrap_i64]; omega
  have w2' : IntKind.i64.wrap (Int.tdiv a 240) = a2 := by rw [wa2, IntKind.wrap_i64]; omega
  have l1 : (P : Int) < 16 := by omega
  have l2 : (X : Int) < 15 := by omega
  have l3 : (Y : Int) < 15 := by omega
  obtain ⟨B1, hB1⟩ : ∃ x, b1.toNat = x := ⟨_, rfl⟩
  obtain ⟨B2, hB2⟩ : ∃ x, b2.toNat = x := ⟨_, rfl⟩
  have w7 : (208 : Int) + (X : Int) = (B1 : Int) := by omega
  have w7' : IntKind.u8.wrap ((208 : Int) + (X : Int)) = (B1 : Int) := by rw [IntKind.wrap_u8]; omega
  obtain ⟨Z, hZ⟩ : ∃ x, 16 * Y = x := ⟨_, rfl⟩
  have w8 : (16 : Int) * (Y : Int) = (Z : Int) := by omega
  have w9 : (Z : Int) + (P : Int) = (B2 : Int) := by omega
  have l4 : (Z : Int) < 256 := by omega
  have l5 : (B1 : Int) < 256 := by omega
  have l6 : (B2 : Int) < 256 := by omega
  have hBB : Hid (b1.toNat = B1 ∧ b2.toNat = B2) := ⟨hB1, hB2⟩
  clear hP1 hX1 hY1 hb1 hb2 hB1 hB2 hZ
  have q1 : ((e1 : Int) != 0) = false := by simp; omega
  have q2 : ((o1 : Int) != 1) = false := by simp; omega
  have q3 : ((o2 : Int) == 1) = true := by simp; omega
  have q4 : (X2.toList == X2.toList) = true := by simp
  have q5 : (X1.toList == X2.toList) = false := by simpa using hne
  clear hne
  clear he ho ho2
  go_enter Try.func7, Try.ntmps7
  go_upto_region 11 with (first
    | ((with_reducible refine at_st rtG (w.heap.size) C C2 ?_ ?_ ?_ ?_ (.tmp 3) (.tmp 37) ?_ ?_ ?_ ?_ ?_); exact K4.out.1.bx 0 _ _ _ rfl; exact gC.out; exact (K4.out.2.1).lies.size.1; exact (K4.out.2.1).lies.size.2.1; rfl; rfl; rfl; rfl; intro y5 H5; have K5 : Hid (Fm w [(w.heap.size, C2, 29), (w.heap.size + 1, D, 40)] y5 ∧ GO w.heap.size y5 C2 g ∧ True) := ⟨K4.out.1.put 0 _ _ _ _ rfl H5.out, (K4.out.2.1).offT (K4.out.1.bx 0 _ _ _ rfl) (by decide) (by decide) H5.out.2.2, trivial⟩; clear H5)
    | (go_at_call 25; refine (copied_any y3 C g (hg.out.below K3.out.1.low) nst.out.1 nst.out.2.1 nst.out.2.2).mono ?_; rintro e y4 ⟨C2, rfl, H⟩; have K4 : Hid (Fm w [(w.heap.size, C, 29), (w.heap.size + 1, D, 40)] y4 ∧ GO w.heap.size y4 C2 g ∧ True) := ⟨K3.out.1.below H.out.2, H.out.1.weak K3.out.1.low.size, trivial⟩; clear H)
    | (go_at_call 24; with_reducible refine (pick_any y3 a2 15 ha2 (by decide)).mono ?_; rintro e yp ⟨rfl, ep⟩; replace ep := ep.symm; subst ep; rw [hY.out])
    | (go_at_call 24; with_reducible refine (pick_any y3 a1 15 ha1 (by decide)).mono ?_; rintro e yp ⟨rfl, ep⟩; replace ep := ep.symm; subst ep; rw [hX.out])
    | (go_at_call 24; with_reducible refine (pick_any y3 a 16 ha (by decide)).mono ?_; rintro e yp ⟨rfl, ep⟩; replace ep := ep.symm; subst ep; rw [hP.out])
    | (go_at_call 20; refine (rcheck_gl y2 C g (hg.out.below K2.out.1.low)).mono ?_; rintro e y3 ⟨rfl, H⟩; have K3 : Hid (Fm w [(w.heap.size, C, 29), (w.heap.size + 1, D, 40)] y3 ∧ True) := ⟨K2.out.1.below H, trivial⟩; rw [hm.out]; clear H)
    | (go_at_call 15; refine (vast_gl y1 C D g f (hg.out.below K1.out.1.low) (hf.out.below K1.out.1.low)).mono ?_; rintro e y2 ⟨rfl, H⟩; have K2 : Hid (Fm w [(w.heap.size, C, 29), (w.heap.size + 1, D, 40)] y2 ∧ True) := ⟨K1.out.1.below H, trivial⟩; rw [hv.out]; clear H)
    | (go_at_call 8; refine (awake_any y0).mono ?_; rintro e y1 ⟨rfl, H⟩; have K1 : Hid (Fm w [(w.heap.size, C, 29), (w.heap.size + 1, D, 40)] y1 ∧ True) := ⟨K0.out.1.below H, trivial⟩; clear H)
    | ((with_reducible refine gen_world ((w.alloc (.cells C 29)).alloc (.cells D 40)) (fun y => Fm w [(w.heap.size, C, 29), (w.heap.size + 1, D, 40)] y ∧ True) ?_ ?_); (exact ⟨Fm.two w _ _ _ _ , trivial⟩); intro y0 K0)
    | ((with_reducible refine at_load rtG (w.heap.size) C ?_ ?_ (.tmp 3) ?_ ?_ ?_ ?_); (first | exact K3.out.1.bx 0 _ _ _ rfl | exact K2.out.1.bx 0 _ _ _ rfl | exact K1.out.1.bx 0 _ _ _ rfl); (first | exact gC.out | exact (K3.out.2.1).lies.size.1 | exact (K2.out.2.1).lies.size.1 | exact (K1.out.2.1).lies.size.1); kernel_rfl; rfl; rfl)
    | ((with_reducible refine at_load rtFn (w.heap.size + 1) D ?_ ?_ (.tmp 4) ?_ ?_ ?_ ?_); (first | exact K1.out.1.bx 1 _ _ _ rfl); (first | exact gD.out); kernel_rfl; rfl; rfl))
  obtain ⟨gM, cM, hM⟩ := (K5.out.2.1).memC (by rw [hml'.out]; decide)
  rw [hml'.out] at hM
  have c22 := (K5.out.1.bx 0 _ _ _ rfl).c 22 _ hM
  have c17 := (K5.out.1.bx 0 _ _ _ rfl).c 17 _ ((K5.out.2.1).cells).choose_spec.choose_spec.choose_spec.choose_spec.1
  have z17 := (K5.out.1.bx 0 _ _ _ rfl).fz 17
  obtain ⟨lM, ⟨csM, xM⟩, ⟨v0, d0⟩, f0, _⟩ := (K5.out.2.1).setMe hM 0 (by rw [hml'.out]; decide)
  obtain ⟨_, _, ⟨v1, d1⟩, f1, _⟩ := (K5.out.2.1).setMe hM 1 (by rw [hml'.out]; decide)
  obtain ⟨C3, hC3⟩ : ∃ x, Hid (x = C2.setIfInBounds 17 (.int .u16 512)) := ⟨_, (rfl : C2.setIfInBounds 17 (.int .u16 512) = _)⟩
  have hM3 : Hid (C3[22]? = some (.slice (some ⟨gM, 0, none⟩) 3232 cM)) := by rw [hC3.out]; show _ = _; rw [Array.getElem?_setIfInBounds_ne (by decide)]; exact hM
  have ix0 := fun v => idxB .i64 gM 0 3232 cM 0 v (by decide)
  have ix1 := fun v => idxB .i64 gM 0 3232 cM 1 v (by decide)
  rw [show ((0 : Nat) : Int) = 0 from rfl] at ix0
  rw [show ((1 : Nat) : Int) = 1 from rfl] at ix1
  simp only [Nat.zero_add] at ix0 ix1
  have A1 : Hid (Fm w [(w.heap.size, C3, 29), (w.heap.size + 1, D, 40)] (((y5.setCell ⟨w.heap.size, 17, none⟩ (.int .u16 512)).setCell ⟨gM, 0, none⟩ (.int .u8 (B1 : Int))).setCell ⟨gM, 1, none⟩ (.int .u8 (B2 : Int))) ∧ GO w.heap.size (((y5.setCell ⟨w.heap.size, 17, none⟩ (.int .u16 512)).setCell ⟨gM, 0, none⟩ (.int .u8 (B1 : Int))).setCell ⟨gM, 1, none⟩ (.int .u8 (B2 : Int))) C3 { g with pc := 512, me := (g.me.set 0 b1).set 1 b2 } ∧ True) := by
    rw [← hBB.out.1, ← hBB.out.2]
    have F1 := K5.out.1.setCell 0 _ _ _ _ rfl 17 (.int .u16 512) hC3.out.symm
    have J1 := ((K5.out.2.1).offT (K5.out.1.bx 0 _ _ _ rfl) (by decide) (by decide) (fun q hq => heap_setCell_other y5 ⟨w.heap.size, 17, none⟩ q (.int .u16 512) hq)).setPC 512 (by decide)
    rw [show C2.setIfInBounds 17 (.int .u16 ((512 : Nat) : Int)) = C3 from hC3.out.symm] at J1
    obtain ⟨lb, ⟨cs1, x1⟩, _, _, J2⟩ := J1.setMe hM3.out 0 (by show 0 < g.me.length; rw [hml'.out]; decide)
    have F2 := F1.offU x1 lb boxT2 0 (.int .u8 (b1.toNat : Int))
    obtain ⟨_, ⟨cs2, x2⟩, _, _, J3⟩ := (J2 b1).setMe hM3.out 1 (by show 1 < (g.me.set 0 b1).length; rw [List.length_set, hml'.out]; decide)
    exact ⟨F2.offU x2 lb boxT2 1 _, J3 b2, trivial⟩
  go_upto_region 14 with (fail)
  generalize ((y5.setCell ⟨w.heap.size, 17, none⟩ (.int .u16 512)).setCell ⟨gM, 0, none⟩ (.int .u8 (B1 : Int))).setCell ⟨gM, 1, none⟩ (.int .u8 (B2 : Int)) = ya at A1 ⊢
  clear c22 c17 z17 d0 f0 d1 f1 hM xM lM ix0 ix1
  have c22a := (A1.out.1.bx 0 _ _ _ rfl).c 22 _ hM3.out
  have hla : Hid (((g.me.set 0 b1).set 1 b2).length = 3232) := by show _ = _; simp only [List.length_set]; exact hml'.out
  obtain ⟨lMa, ⟨csa, xa⟩, ⟨vza, dza⟩, fza, Ja⟩ := (A1.out.2.1).setMe hM3.out 2 (by show 2 < ((g.me.set 0 b1).set 1 b2).length; rw [hla.out]; decide)
  have dra := (A1.out.2.1).meAt hM3.out 0 (by show 0 < ((g.me.set 0 b1).set 1 b2).length; rw [hla.out]; decide)
  rw [show ((({ g with pc := 512, me := (g.me.set 0 b1).set 1 b2 } : Gm).me.getD 0 0).toNat : Int) = (B1 : Int) from by have h := hBB.out; have h0 := hml'.out; show ((((g.me.set 0 b1).set 1 b2).getD 0 0).toNat : Int) = _; rw [show ((g.me.set 0 b1).set 1 b2).getD 0 0 = b1 from by simp [List.getD, h0]]; omega] at dra
  have ixaa := fun v => idxB .i64 gM 0 3232 cM 0 v (by decide)
  have ixba := fun v => idxB .i64 gM 0 3232 cM 2 v (by decide)
  rw [show ((0 : Nat) : Int) = 0 from rfl] at ixaa
  rw [show ((2 : Nat) : Int) = 2 from rfl] at ixba
  simp only [Nat.zero_add] at ixaa ixba
  have A2' : Hid (∀ n, Fm w [(w.heap.size, C3, 29), (w.heap.size + 1, D, 40)] ((ya.drewN n).setCell ⟨gM, 2, none⟩ (.int .u8 (B1 : Int))) ∧ GO w.heap.size ((ya.drewN n).setCell ⟨gM, 2, none⟩ (.int .u8 (B1 : Int))) C3 { g with pc := 512, me := ((g.me.set 0 b1).set 1 b2).set 2 b1 } ∧ True) := by
    intro n
    rw [← hBB.out.1]
    have F := A1.out.1.below (below_drewN (n := n) (Below.refl _ _))
    have J := (A1.out.2.1).below (below_drewN (n := n) (Below.refl _ _))
    obtain ⟨lb, ⟨cs', x'⟩, _, _, J'⟩ := J.setMe hM3.out 2 (by show 2 < ((g.me.set 0 b1).set 1 b2).length; rw [hla.out]; decide)
    skip
    exact ⟨F.offU x' lb boxT2 2 _, J' b1, trivial⟩
  clear Ja xa lMa
  go_wp2
  refine region_class_tail 7 (fun y => ∃ n, y = ya.drewN n) (by kernel_rfl) (by kernel_rfl) ⟨1, rfl⟩ ?_
  dsimp only [List.take, List.drop]
  repeat (go_big_quiet_step (fail))
  refine wpQuiet_nil ?_
  rintro _ ⟨nqa, rfl⟩
  go_upto_region 15 with (fail)
  have A2 := A2'.out nqa
  generalize (ya.drewN nqa).setCell ⟨gM, 2, none⟩ (.int .u8 (B1 : Int)) = yb at A2 ⊢
  replace A2 : Hid _ := A2
  clear c22a dza fza dra A2'
  have c22b := (A2.out.1.bx 0 _ _ _ rfl).c 22 _ hM3.out
  have hlb : Hid ((((g.me.set 0 b1).set 1 b2).set 2 b1).length = 3232) := by show _ = _; simp only [List.length_set]; exact hml'.out
  obtain ⟨lMb, ⟨csb, xb⟩, ⟨vzb, dzb⟩, fzb, Jb⟩ := (A2.out.2.1).setMe hM3.out 3 (by show 3 < (((g.me.set 0 b1).set 1 b2).set 2 b1).length; rw [hlb.out]; decide)
  have drb := (A2.out.2.1).meAt hM3.out 1 (by show 1 < (((g.me.set 0 b1).set 1 b2).set 2 b1).length; rw [hlb.out]; decide)
  rw [show ((({ g with pc := 512, me := ((g.me.set 0 b1).set 1 b2).set 2 b1 } : Gm).me.getD 1 0).toNat : Int) = (B2 : Int) from by have h := hBB.out; have h0 := hml'.out; show (((((g.me.set 0 b1).set 1 b2).set 2 b1).getD 1 0).toNat : Int) = _; rw [show (((g.me.set 0 b1).set 1 b2).set 2 b1).getD 1 0 = b2 from by simp [List.getD, h0]]; omega] at drb
  have ixab := fun v => idxB .i64 gM 0 3232 cM 1 v (by decide)
  have ixbb := fun v => idxB .i64 gM 0 3232 cM 3 v (by decide)
  rw [show ((1 : Nat) : Int) = 1 from rfl] at ixab
  rw [show ((3 : Nat) : Int) = 3 from rfl] at ixbb
  simp only [Nat.zero_add] at ixab ixbb
  have A3' : Hid (∀ n, Fm w [(w.heap.size, C3, 29), (w.heap.size + 1, D, 40)] ((yb.drewN n).setCell ⟨gM, 3, none⟩ (.int .u8 (B2 : Int))) ∧ GO w.heap.size ((yb.drewN n).setCell ⟨gM, 3, none⟩ (.int .u8 (B2 : Int))) C3 G2 ∧ True) := by
    intro n
    rw [← hBB.out.2]
    have F := A2.out.1.below (below_drewN (n := n) (Below.refl _ _))
    have J := (A2.out.2.1).below (below_drewN (n := n) (Below.refl _ _))
    obtain ⟨lb, ⟨cs', x'⟩, _, _, J'⟩ := J.setMe hM3.out 3 (by show 3 < (((g.me.set 0 b1).set 1 b2).set 2 b1).length; rw [hlb.out]; decide)
    rw [hG2.out]
    exact ⟨F.offU x' lb boxT2 3 _, J' b2, trivial⟩
  clear Jb xb lMb
  go_wp2
  refine region_class_tail 7 (fun y => ∃ n, y = yb.drewN n) (by kernel_rfl) (by kernel_rfl) ⟨1, rfl⟩ ?_
  dsimp only [List.take, List.drop]
  repeat (go_big_quiet_step (fail))
  refine wpQuiet_nil ?_
  rintro _ ⟨nqb, rfl⟩
  go_upto_region 16 with (fail)
  have A3 := A3'.out nqb
  generalize (yb.drewN nqb).setCell ⟨gM, 3, none⟩ (.int .u8 (B2 : Int)) = y20 at A3 ⊢
  replace A3 : Hid _ := A3
  clear c22b dzb fzb drb A3'
  have K20 : Hid (Fm w [(w.heap.size, C3, 29), (w.heap.size + 1, D, 40)] y20 ∧ GO w.heap.size y20 C3 G2 ∧ True) := A3
  clear A3 A1 A2
  go_wp2_with (first
    | ((with_reducible refine at_st rtG y26.heap.size #[.int .u8 0, .int .u8 0, .int .u8 0, .int .u8 0, .int .u8 0, .int .u8 0, .int .u8 0, .int .u8 0, .int .u8 0, .int .u8 0, .int .u8 0, .int .u8 0, .int .u8 0, .int .u8 0, .int .u8 0, .int .u8 0, .int .u16 0, .int .u16 0, .slice none 0 0, .int .u8 0, .int .u8 0, .slice none 0 0, .slice none 0 0] C5 ?_ ?_ ?_ ?_ (.tmp 16) (.tmp 96) ?_ ?_ ?_ ?_ ?_); exact K27.out.1.bx 4 _ _ _ rfl; rfl; exact (K27.out.2.2.2.1).lies.size.1; exact (K27.out.2.2.2.1).lies.size.2.1; rfl; rfl; rfl; rfl; intro y28 H28; have K28 : Hid (Fm w [(w.heap.size, C3, 29), (w.heap.size + 1, D, 40), (y20.heap.size, #[.int .u8 0, .int .u16 0, .int .i64 (-1)], 50), (y23.heap.size, C4, 29), (y26.heap.size, C5, 29)] y28 ∧ GO w.heap.size y28 C3 G2 ∧ GO w.heap.size y28 C4 s1 ∧ GO w.heap.size y28 C5 s2 ∧ True) := ⟨K27.out.1.put 4 _ _ _ _ rfl H28.out, (K27.out.2.1).offT (K27.out.1.bx 4 _ _ _ rfl) (by decide) (by decide) H28.out.2.2, (K27.out.2.2.1).offT (K27.out.1.bx 4 _ _ _ rfl) (by decide) (by decide) H28.out.2.2, (K27.out.2.2.2.1).offT (K27.out.1.bx 4 _ _ _ rfl) (by decide) (by decide) H28.out.2.2, trivial⟩; clear H28 K27; obtain ⟨pg1, pg2, pg3, eg, vg⟩ := (K28.out.2.1).page; obtain ⟨pa1, pa2, pa3, ea, va⟩ := (K28.out.2.2.1).page; obtain ⟨pb1, pb2, pb3, eb, vb⟩ := (K28.out.2.2.2.1).page; have cg21 := (K28.out.1.bx 0 _ _ _ rfl).c 21 _ eg; have ca21 := (K28.out.1.bx 3 _ _ _ rfl).c 21 _ ea; have cb21 := (K28.out.1.bx 4 _ _ _ rfl).c 21 _ eb; have ra := (K28.out.2.2.1).regs.2.2.1; have rb := (K28.out.2.2.2.1).regs.2.2.1; rw [hva.out, show ((1 : Nat) : Int) = 1 from rfl] at ra; rw [hvb.out, show ((1 : Nat) : Int) = 1 from rfl] at rb; have ca15 := (K28.out.1.bx 3 _ _ _ rfl).c 15 _ ra; have cb15 := (K28.out.1.bx 4 _ _ _ rfl).c 15 _ rb; rw [xg.out] at vg; rw [xa.out] at va; rw [xb.out] at vb; clear eg ea eb ra rb)
    | ((with_reducible refine gen_world (y26.alloc (.cells #[.int .u8 0, .int .u8 0, .int .u8 0, .int .u8 0, .int .u8 0, .int .u8 0, .int .u8 0, .int .u8 0, .int .u8 0, .int .u8 0, .int .u8 0, .int .u8 0, .int .u8 0, .int .u8 0, .int .u8 0, .int .u8 0, .int .u16 0, .int .u16 0, .slice none 0 0, .int .u8 0, .int .u8 0, .slice none 0 0, .slice none 0 0] 29)) (fun y => Fm w [(w.heap.size, C3, 29), (w.heap.size + 1, D, 40), (y20.heap.size, #[.int .u8 0, .int .u16 0, .int .i64 (-1)], 50), (y23.heap.size, C4, 29), (y26.heap.size, #[.int .u8 0, .int .u8 0, .int .u8 0, .int .u8 0, .int .u8 0, .int .u8 0, .int .u8 0, .int .u8 0, .int .u8 0, .int .u8 0, .int .u8 0, .int .u8 0, .int .u8 0, .int .u8 0, .int .u8 0, .int .u8 0, .int .u16 0, .int .u16 0, .slice none 0 0, .int .u8 0, .int .u8 0, .slice none 0 0, .slice none 0 0], 29)] y ∧ GO w.heap.size y C3 G2 ∧ GO w.heap.size y C4 s1 ∧ GO w.heap.size y C5 s2 ∧ True) ?_ ?_); (exact ⟨K26.out.1.new _ _, (K26.out.2.1).below (below1 y26 _), (K26.out.2.2.1).below (below1 y26 _), (K26.out.2.2.2.1).below (below1 y26 _), trivial⟩); intro y27 K27)
    | (go_at_call 22; refine (step_aw2 y25 C4 D s1 f (K25.out.2.2.1).lies (hf.out.below K25.out.1.low) hsS.out s2 o2 e2 hs2.out).mono ?_; rintro e y26 ⟨C5, rfl, J, H⟩; have K26 : Hid (Fm w [(w.heap.size, C3, 29), (w.heap.size + 1, D, 40), (y20.heap.size, #[.int .u8 0, .int .u16 0, .int .i64 (-1)], 50), (y23.heap.size, C4, 29)] y26 ∧ GO w.heap.size y26 C3 G2 ∧ GO w.heap.size y26 C4 s1 ∧ GO w.heap.size y26 C5 s2 ∧ True) := ⟨K25.out.1.below H, (K25.out.2.1).below H, (K25.out.2.2.1).below H, J.weak K25.out.1.low.size, trivial⟩; clear H J)
    | ((with_reducible refine at_st rtG y23.heap.size #[.int .u8 0, .int .u8 0, .int .u8 0, .int .u8 0, .int .u8 0, .int .u8 0, .int .u8 0, .int .u8 0, .int .u8 0, .int .u8 0, .int .u8 0, .int .u8 0, .int .u8 0, .int .u8 0, .int .u8 0, .int .u8 0, .int .u16 0, .int .u16 0, .slice none 0 0, .int .u8 0, .int .u8 0, .slice none 0 0, .slice none 0 0] C4 ?_ ?_ ?_ ?_ (.tmp 13) (.tmp 73) ?_ ?_ ?_ ?_ ?_); exact K24.out.1.bx 3 _ _ _ rfl; rfl; exact (K24.out.2.2.1).lies.size.1; exact (K24.out.2.2.1).lies.size.2.1; rfl; rfl; rfl; rfl; intro y25 H25; have K25 : Hid (Fm w [(w.heap.size, C3, 29), (w.heap.size + 1, D, 40), (y20.heap.size, #[.int .u8 0, .int .u16 0, .int .i64 (-1)], 50), (y23.heap.size, C4, 29)] y25 ∧ GO w.heap.size y25 C3 G2 ∧ GO w.heap.size y25 C4 s1 ∧ True) := ⟨K24.out.1.put 3 _ _ _ _ rfl H25.out, (K24.out.2.1).offT (K24.out.1.bx 3 _ _ _ rfl) (by decide) (by decide) H25.out.2.2, (K24.out.2.2.1).offT (K24.out.1.bx 3 _ _ _ rfl) (by decide) (by decide) H25.out.2.2, trivial⟩; clear H25 K24)
    | ((with_reducible refine gen_world (y23.alloc (.cells #[.int .u8 0, .int .u8 0, .int .u8 0, .int .u8 0, .int .u8 0, .int .u8 0, .int .u8 0, .int .u8 0, .int .u8 0, .int .u8 0, .int .u8 0, .int .u8 0, .int .u8 0, .int .u8 0, .int .u8 0, .int .u8 0, .int .u16 0, .int .u16 0, .slice none 0 0, .int .u8 0, .int .u8 0, .slice none 0 0, .slice none 0 0] 29)) (fun y => Fm w [(w.heap.size, C3, 29), (w.heap.size + 1, D, 40), (y20.heap.size, #[.int .u8 0, .int .u16 0, .int .i64 (-1)], 50), (y23.heap.size, #[.int .u8 0, .int .u8 0, .int .u8 0, .int .u8 0, .int .u8 0, .int .u8 0, .int .u8 0, .int .u8 0, .int .u8 0, .int .u8 0, .int .u8 0, .int .u8 0, .int .u8 0, .int .u8 0, .int .u8 0, .int .u8 0, .int .u16 0, .int .u16 0, .slice none 0 0, .int .u8 0, .int .u8 0, .slice none 0 0, .slice none 0 0], 29)] y ∧ GO w.heap.size y C3 G2 ∧ GO w.heap.size y C4 s1 ∧ True) ?_ ?_); (exact ⟨K23.out.1.new _ _, (K23.out.2.1).below (below1 y23 _), (K23.out.2.2.1).below (below1 y23 _), trivial⟩); intro y24 K24)
    | (go_at_call 22; refine (step_aw2 y22 C3 D G2 f (K22.out.2.1).lies (hf.out.below K22.out.1.low) hsG.out s1 o1 e1 hs1.out).mono ?_; rintro e y23 ⟨C4, rfl, J, H⟩; have K23 : Hid (Fm w [(w.heap.size, C3, 29), (w.heap.size + 1, D, 40), (y20.heap.size, #[.int .u8 0, .int .u16 0, .int .i64 (-1)], 50)] y23 ∧ GO w.heap.size y23 C3 G2 ∧ GO w.heap.size y23 C4 s1 ∧ True) := ⟨K22.out.1.below H, (K22.out.2.1).below H, J.weak K22.out.1.low.size, trivial⟩; clear H J)
    | ((with_reducible refine at_st rtFd y20.heap.size #[.int .u8 0, .int .u16 0, .int .i64 0] #[.int .u8 0, .int .u16 0, .int .i64 (-1)] ?_ ?_ ?_ ?_ (.tmp 12) (.tmp 67) ?_ ?_ ?_ ?_ ?_); exact K21.out.1.bx 2 _ _ _ rfl; rfl; rfl; exact dCs_one fd0; rfl; rfl; rfl; rfl; intro y22 H22; have K22 : Hid (Fm w [(w.heap.size, C3, 29), (w.heap.size + 1, D, 40), (y20.heap.size, #[.int .u8 0, .int .u16 0, .int .i64 (-1)], 50)] y22 ∧ GO w.heap.size y22 C3 G2 ∧ True) := ⟨K21.out.1.put 2 _ _ _ _ rfl H22.out, (K21.out.2.1).offT (K21.out.1.bx 2 _ _ _ rfl) (by decide) (by decide) H22.out.2.2, trivial⟩; clear H22 K21)
    | ((with_reducible refine gen_world (y20.alloc (.cells #[.int .u8 0, .int .u16 0, .int .i64 0] 50)) (fun y => Fm w [(w.heap.size, C3, 29), (w.heap.size + 1, D, 40), (y20.heap.size, #[.int .u8 0, .int .u16 0, .int .i64 0], 50)] y ∧ GO w.heap.size y C3 G2 ∧ True) ?_ ?_); (exact ⟨K20.out.1.new _ _, (K20.out.2.1).below (below1 y20 _), trivial⟩); intro y21 K21)
    | ((with_reducible refine at_bu #[(2, .const (.int .i64 (-1)))] [(2, .int .i64 (-1))] #[.int .u8 0, .int .u16 0, .int .i64 (-1)] ?_ ?_ ?_ builtD0 ?_); kernel_rfl; rfl; kernel_rfl)
    | ((with_reducible refine at_load rtG (w.heap.size) C3 ?_ ?_ (.tmp 3) ?_ ?_ ?_ ?_); (first | exact K22.out.1.bx 0 _ _ _ rfl); (first | exact (K22.out.2.1).lies.size.1); kernel_rfl; rfl; rfl)
    | ((with_reducible refine at_load rtFn (w.heap.size + 1) D ?_ ?_ (.tmp 4) ?_ ?_ ?_ ?_); (first | exact K25.out.1.bx 1 _ _ _ rfl | exact K22.out.1.bx 1 _ _ _ rfl); (first | exact gD.out); kernel_rfl; rfl; rfl)
    | ((with_reducible refine at_load rtFd (y20.heap.size) #[.int .u8 0, .int .u16 0, .int .i64 (-1)] ?_ ?_ (.tmp 12) ?_ ?_ ?_ ?_); (first | exact K25.out.1.bx 2 _ _ _ rfl | exact K22.out.1.bx 2 _ _ _ rfl); (first | rfl); kernel_rfl; rfl; rfl)
    | ((with_reducible refine at_load rtG (y23.heap.size) C4 ?_ ?_ (.tmp 13) ?_ ?_ ?_ ?_); (first | exact K25.out.1.bx 3 _ _ _ rfl); (first | exact (K25.out.2.2.1).lies.size.1); kernel_rfl; rfl; rfl))
  go_ret
  exact ⟨rfl, K28.out.1.low⟩

theorem twice_walk (w : World) (C D : Array Value) (g : Gm) (f : Fo) (a : Int) (hg : GL w C g) (hf : FL w D f) (ha : -9223372036854775808 ≤ a ∧ a ≤ 9223372036854775807) :
    Calls Try.prog 7 #[.agg C, .agg D, .int .i64 a] w fun e w' => e = .returned (.bool true) ∧ Below w.heap.size w w' := by
  rcases hv : vasG g.st.length g.pg.length g.me.length f.by_.length with _ | _
  · have hs : smaG g f := by
      unfold vasG at hv
      unfold smaG
      simpa using hv
    rcases hm : g.may with _ | _
    · exact twice_bad w C D g f a hg hf ha hv hm
    · obtain ⟨a1, wa1⟩ : ∃ x, Int.tdiv a 16 = x := ⟨_, rfl⟩
      obtain ⟨a2, wa2⟩ : ∃ x, Int.tdiv a 240 = x := ⟨_, rfl⟩
      have ha1 : -9223372036854775808 ≤ a1 ∧ a1 ≤ 9223372036854775807 := tdivI ha wa1 (by decide)
      have ha2 : -9223372036854775808 ≤ a2 ∧ a2 ≤ 9223372036854775807 := tdivI ha wa2 (by decide)
      obtain ⟨P, hP1, hP⟩ := pick_nat a 16 (by decide)
      obtain ⟨X, hX1, hX⟩ := pick_nat a1 15 (by decide)
      obtain ⟨Y, hY1, hY⟩ := pick_nat a2 15 (by decide)
      have hl := may_iff.1 hm
      have p1 : (UInt8.ofNat (208 + X)).toNat = 208 + X := ofB (by omega)
      have p2 : (UInt8.ofNat (16 * Y + P)).toNat = 16 * Y + P := ofB (by omega)
      obtain ⟨b1, hb1⟩ : ∃ b, UInt8.ofNat (208 + X) = b := ⟨_, rfl⟩
      obtain ⟨b2, hb2⟩ : ∃ b, UInt8.ofNat (16 * Y + P) = b := ⟨_, rfl⟩
      rw [hb1] at p1
      rw [hb2] at p2
      obtain ⟨G2, hG2⟩ : ∃ G2 : Gm, G2 = { g with pc := 512, me := (((g.me.set 0 b1).set 1 b2).set 2 b1).set 3 b2 } := ⟨_, rfl⟩
      have hmG : G2.may = true := by rw [hG2]; exact may_iff.2 ⟨hl.1, by simp [hl.2.1], hl.2.2⟩
      have hlG := may_iff.1 hmG
      have hsG : smaG G2 f := by
        unfold smaG at hs ⊢
        have e1 : G2.st = g.st := by rw [hG2]
        have e2 : G2.pg = g.pg := by rw [hG2]
        rw [e1, e2, hlG.2.1]
        omega
      rcases hfo : fontG f with _ | _
      · have e := step_arg (d := fd0) hmG (by rw [hfo]; rfl)
        exact twice_arg w C D g f a hg hf ha hv hm hs P X Y a1 a2 hP wa1 wa2 ha1 ha2 hX hY hP1 hX1 hY1 b1 b2 p1 p2 G2 hG2 hsG gz 0 1 e rfl
      · have me : G2.me = (((g.me.set 0 b1).set 1 b2).set 2 b1).set 3 b2 := by rw [hG2]
        have m0 : G2.me.getD 0 0 = b1 := by
          rw [me, set_at, if_neg (by omega), set_at, if_neg (by omega), set_at, if_neg (by omega), set_at, if_pos ⟨rfl, by omega⟩]
        have m1 : G2.me.getD 1 0 = b2 := by
          rw [me, set_at, if_neg (by omega), set_at, if_neg (by omega), set_at, if_pos ⟨rfl, by rw [List.length_set]; omega⟩]
        have m2 : G2.me.getD 2 0 = b1 := by
          rw [me, set_at, if_neg (by omega), set_at, if_pos ⟨rfl, by rw [List.length_set, List.length_set]; omega⟩]
        have m3 : G2.me.getD 3 0 = b2 := by
          rw [me, set_at, if_pos ⟨rfl, by rw [List.length_set, List.length_set, List.length_set]; omega⟩]
        have hvl : G2.v.length = 16 := by
          have h16 := hg.ok.v
          rw [hG2]
          exact h16
        rcases step_twice (g := G2) (f := f) (d := fd0) hX1 hY1 hP1 hmG hvl (by rw [hG2]) hfo (by decide) (m0.trans hb1.symm) (m1.trans hb2.symm) (m2.trans hb1.symm) (m3.trans hb2.symm) with e | ⟨A, B, sa, sb, ma, mb, pg, va, vb, iff⟩
        · exact twice_out w C D g f a hg hf ha hv hm hs P X Y a1 a2 hP wa1 wa2 ha1 ha2 hX hY hP1 hX1 hY1 b1 b2 p1 p2 G2 hG2 hsG G2 7 0 e rfl rfl
        · have hsS : smaG A f := by
            have hA := may_iff.1 ma
            unfold fontG at hfo
            simp only [decide_eq_true_eq] at hfo
            unfold smaG
            rw [hA.1, hA.2.1]
            have := hA.2.2
            omega
          have xb : sB B.pg = sB G2.pg := by rw [pg]
          have tn : ∀ {l k : List UInt8}, (sB l).toList = (sB k).toList → l = k := fun h => by rw [sB_list, sB_list] at h; exact h
          have u0 : ∀ {x : UInt8}, x.toNat = 0 → x = 0 := fun h => UInt8.toNat_inj.1 h
          by_cases h0 : A.pg = G2.pg
          · obtain ⟨z1, z2⟩ := iff.1 h0
            exact twice_00 w C D g f a hg hf ha hv hm hs P X Y a1 a2 hP wa1 wa2 ha1 ha2 hX hY hP1 hX1 hY1 b1 b2 p1 p2 G2 hG2 hsG A 1 0 sa rfl rfl hsS B 1 0 sb rfl (by rw [z1]; rfl) (by rw [z2]; rfl) (sB A.pg) (sB G2.pg) rfl (by rw [h0]; rfl) xb
          · have hne : (sB A.pg).toList ≠ (sB G2.pg).toList := fun h => h0 (tn h)
            rcases (show (A.v.getD 15 0).toNat = 0 ∨ (A.v.getD 15 0).toNat = 1 by omega) with z1 | z1 <;> rcases (show (B.v.getD 15 0).toNat = 0 ∨ (B.v.getD 15 0).toNat = 1 by omega) with z2 | z2
            · exact (h0 (iff.2 ⟨u0 z1, u0 z2⟩)).elim
            · exact twice_01 w C D g f a hg hf ha hv hm hs P X Y a1 a2 hP wa1 wa2 ha1 ha2 hX hY hP1 hX1 hY1 b1 b2 p1 p2 G2 hG2 hsG A 1 0 sa rfl rfl hsS B 1 0 sb rfl z1 z2 (sB A.pg) (sB G2.pg) rfl rfl xb hne
            · exact twice_10 w C D g f a hg hf ha hv hm hs P X Y a1 a2 hP wa1 wa2 ha1 ha2 hX hY hP1 hX1 hY1 b1 b2 p1 p2 G2 hG2 hsG A 1 0 sa rfl rfl hsS B 1 0 sb rfl z1 z2 (sB A.pg) (sB G2.pg) rfl rfl xb hne
            · exact twice_11 w C D g f a hg hf ha hv hm hs P X Y a1 a2 hP wa1 wa2 ha1 ha2 hX hY hP1 hX1 hY1 b1 b2 p1 p2 G2 hG2 hsG A 1 0 sa rfl rfl hsS B 1 0 sb rfl z1 z2 (sB A.pg) (sB G2.pg) rfl rfl xb hne
  · exact twice_vast w C D g f a hg hf ha hv
end Go.Proofs.Ytilflcffcocncaa
