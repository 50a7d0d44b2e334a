/- GameCalls: a call, and the return from it. -/
import Derived.Test.YtilflcffcocncabHm
namespace Go.Proofs.Ytilflcffcocncab
open Go Go.RowKit Go.Shelf
set_option linter.unusedVariables false
set_option maxHeartbeats 1000000
set_option maxRecDepth 20000

theorem step_aw2 (y : World) (C D : Array Value) (g : Gm) (f : Fo) (h : GL y C g) (hf : FL y D f) (hs : smaG g f) (s1 : Gm) (o1 e1 : Nat) (he : stepG g f fd0 = (s1, o1, e1)) : Calls Try.prog 10 #[.agg C, .agg D, .agg #[.int .u8 0, .int .u16 0, .int .i64 (-1)]] y fun e w' => ∃ C', e = .returned (.tuple #[.agg C', .int .u8 (o1 : Int), .int .i64 (e1 : Int)]) ∧ GO y.heap.size w' C' s1 ∧ Below y.heap.size y w' := by
  have := step_any y C D g f fd0 h hf ⟨by decide, by decide, by decide⟩ hs
  rw [he] at this
  exact this
theorem GO.stC {B : Nat} {w : World} {C : Array Value} {g : Gm} (h : GO B w C g) : ∃ s c, C[18]? = some (.slice s g.st.length c) := by
  obtain ⟨⟨vS, vP, vM, e, h1, h2, h3, h4⟩, ok⟩ := h
  obtain ⟨s1, c1, e1, _⟩ := OwnL.open kWord.len h1
  exact ⟨s1, c1, by rw [e, e1]; rfl⟩
theorem GO.stAt {B : Nat} {w : World} {C : Array Value} {g : Gm} (h : GO B w C g) (n : Nat) (hn : n < g.st.length) : ∃ gS c, C[18]? = some (.slice (some ⟨gS, 0, none⟩) g.st.length c) ∧ w.cell? ⟨gS, 0 + n, none⟩ = some (.int .u16 ((g.st.getD n 0 : Nat) : Int)) := by
  obtain ⟨⟨vS, vP, vM, e, h1, h2, h3, h4⟩, ok⟩ := h
  obtain ⟨s1, c1, e1, hl, k0, _⟩ := OwnL.open kWord.len h1
  obtain ⟨gb, ob, rfl⟩ := lw_some hl (by omega)
  obtain rfl : ob = 0 := (k0 _ rfl).1
  exact ⟨gb, c1, by rw [e, e1]; rfl, lw_at hl n hn⟩
theorem boxT2 {c1 c2 : Array Value} {b1 b2 : Nat} : ∀ (i b : Nat) (c : Array Value) (u : TypeId), [(b1, c1, 27), (b2, c2, 30)][i]? = some (b, c, u) → u ≠ 5 := by
  intro i b c u h
  match i with
  | 0 => simp at h; rw [← h.2.2]; decide
  | 1 => simp at h; rw [← h.2.2]; decide
  | i + 2 => simp at h
theorem calls_vast (w : World) (C D : Array Value) (g : Gm) (f : Fo) (a : Int) (hg : Hid (GL w C g)) (hf : Hid (FL w D f)) (ha : -9223372036854775808 ≤ a ∧ a ≤ 9223372036854775807) (hv : Hid (vasG g.st.length g.pg.length g.me.length f.by_.length = true)) :
    Calls Try.prog 3 #[.agg C, .agg D, .int .i64 a] w fun e w' => e = .returned (.bool true) ∧ Below w.heap.size w w' := by
  have gC : Hid (C.size = 23) := hg.out.size.1
  have gD : Hid (D.size = 18) := hf.out.size
  go_enter Try.func3, Try.ntmps3
  go_wp2_with (first
    | (go_at_call 6; refine (vast_gl y1 C D g f (hg.out.below K1.out.1.low) (hf.out.below K1.out.1.low)).mono ?_; rintro e y2 ⟨rfl, H⟩; have K2 : Hid (Fm w [(w.heap.size, C, 27), (w.heap.size + 1, D, 30)] y2 ∧ True) := ⟨K1.out.1.below H, trivial⟩; rw [hv.out]; clear H)
    | (go_at_call 5; refine (awake_any y0).mono ?_; rintro e y1 ⟨rfl, H⟩; have K1 : Hid (Fm w [(w.heap.size, C, 27), (w.heap.size + 1, D, 30)] y1 ∧ True) := ⟨K0.out.1.below H, trivial⟩; clear H)
    | ((with_reducible refine gen_world ((w.alloc (.cells C 27)).alloc (.cells D 30)) (fun y => Fm w [(w.heap.size, C, 27), (w.heap.size + 1, D, 30)] y ∧ True) ?_ ?_); (exact ⟨Fm.two w _ _ _ _ , trivial⟩); intro y0 K0)
    | ((with_reducible refine at_load rtG (w.heap.size) C ?_ ?_ (.tmp 3) ?_ ?_ ?_ ?_); (first | exact K1.out.1.bx 0 _ _ _ rfl); (first | exact gC.out); kernel_rfl; rfl; rfl)
    | ((with_reducible refine at_load rtFn (w.heap.size + 1) D ?_ ?_ (.tmp 4) ?_ ?_ ?_ ?_); (first | exact K1.out.1.bx 1 _ _ _ rfl); (first | exact gD.out); kernel_rfl; rfl; rfl))
  go_ret
  exact ⟨rfl, K2.out.1.low⟩

theorem calls_bad (w : World) (C D : Array Value) (g : Gm) (f : Fo) (a : Int) (hg : Hid (GL w C g)) (hf : Hid (FL w D f)) (ha : -9223372036854775808 ≤ a ∧ a ≤ 9223372036854775807) (hv : Hid (vasG g.st.length g.pg.length g.me.length f.by_.length = false)) (hm : Hid (g.may = false)) :
    Calls Try.prog 3 #[.agg C, .agg D, .int .i64 a] w fun e w' => e = .returned (.bool true) ∧ Below w.heap.size w w' := by
  have gC : Hid (C.size = 23) := hg.out.size.1
  have gD : Hid (D.size = 18) := hf.out.size
  go_enter Try.func3, Try.ntmps3
  go_wp2_with (first
    | (go_at_call 7; refine (rcheck_gl y2 C g (hg.out.below K2.out.1.low)).mono ?_; rintro e y3 ⟨rfl, H⟩; have K3 : Hid (Fm w [(w.heap.size, C, 27), (w.heap.size + 1, D, 30)] y3 ∧ True) := ⟨K2.out.1.below H, trivial⟩; rw [hm.out]; clear H)
    | (go_at_call 6; refine (vast_gl y1 C D g f (hg.out.below K1.out.1.low) (hf.out.below K1.out.1.low)).mono ?_; rintro e y2 ⟨rfl, H⟩; have K2 : Hid (Fm w [(w.heap.size, C, 27), (w.heap.size + 1, D, 30)] y2 ∧ True) := ⟨K1.out.1.below H, trivial⟩; rw [hv.out]; clear H)
    | (go_at_call 5; refine (awake_any y0).mono ?_; rintro e y1 ⟨rfl, H⟩; have K1 : Hid (Fm w [(w.heap.size, C, 27), (w.heap.size + 1, D, 30)] y1 ∧ True) := ⟨K0.out.1.below H, trivial⟩; clear H)
    | ((with_reducible refine gen_world ((w.alloc (.cells C 27)).alloc (.cells D 30)) (fun y => Fm w [(w.heap.size, C, 27), (w.heap.size + 1, D, 30)] y ∧ True) ?_ ?_); (exact ⟨Fm.two w _ _ _ _ , trivial⟩); intro y0 K0)
    | ((with_reducible refine at_load rtG (w.heap.size) C ?_ ?_ (.tmp 3) ?_ ?_ ?_ ?_); (first | exact K2.out.1.bx 0 _ _ _ rfl | exact K1.out.1.bx 0 _ _ _ rfl); (first | exact gC.out); kernel_rfl; rfl; rfl)
    | ((with_reducible refine at_load rtFn (w.heap.size + 1) D ?_ ?_ (.tmp 4) ?_ ?_ ?_ ?_); (first | exact K1.out.1.bx 1 _ _ _ rfl); (first | exact gD.out); kernel_rfl; rfl; rfl))
  go_ret
  exact ⟨rfl, K3.out.1.low⟩

theorem calls_arg (w : World) (C D : Array Value) (g : Gm) (f : Fo) (a : Int) (hg : Hid (GL w C g)) (hf : Hid (FL w D f)) (ha : -9223372036854775808 ≤ a ∧ a ≤ 9223372036854775807) (hv : Hid (vasG g.st.length g.pg.length g.me.length f.by_.length = false)) (hm : Hid (g.may = true)) (hs : Hid (smaG g f)) (P tt k k1 : Nat) (hP : Hid ((if a < 0 then -(a + 1) else a) % 3227 = (P : Int))) (hto : 516 + P = tt) (hk : tt - 512 = k) (hk1 : k + 1 = k1) (t1 t2 : Nat) (ht1 : tt / 256 = t1) (ht2 : tt % 256 = t2) (b1 b2 : UInt8) (hb1 : b1.toNat = 32 + t1) (hb2 : b2.toNat = t2) (h3 : P < 3227) (G2 : Gm) (hG2 : Hid (G2 = { g with pc := 512, me := (((g.me.set 0 b1).set 1 b2).set k 0).set k1 238 })) (hsG : Hid (smaG G2 f)) (s1 : Gm) (o1 e1 : Nat) (hs1 : Hid (stepG G2 f fd0 = (s1, o1, e1))) (he : e1 = 1) :
    Calls Try.prog 3 #[.agg C, .agg D, .int .i64 a] w fun e w' => e = .returned (.bool true) ∧ Below w.heap.size w w' := by
  have gC : Hid (C.size = 23) := hg.out.size.1
  have gD : Hid (D.size = 18) := hf.out.size
  have nst : Hid (g.st.length ≤ 4000000000 ∧ g.pg.length ≤ 4000000000 ∧ g.me.length ≤ 4000000000) := by have := hs.out; unfold smaG at this; exact ⟨by omega, by omega, by omega⟩
  have hml := (may_iff.1 hm.out).2.1
  have hml' : Hid (g.me.length = 3232) := hml
  have l1 : (tt : Int) < 3743 := by omega
  have l1b : (516 : Int) ≤ (tt : Int) := by omega
  have l2 : (k : Int) < 3231 := by omega
  have l2' : Hid (k < 3231 ∧ 4 ≤ k) := ⟨by omega, by omega⟩
  have l3 : (k1 : Int) < 3232 := by omega
  have w1 : (516 : Int) + (P : Int) = (tt : Int) := by omega
  have w2 : (tt : Int) / 256 = (t1 : Int) := by omega
  have w2' : Int.tdiv (tt : Int) 256 = (t1 : Int) := by rw [Int.tdiv_eq_ediv_of_nonneg (by omega)]; exact w2
  have w3 : (tt : Int) % 256 = (t2 : Int) := by omega
  have w3' : Int.tmod (tt : Int) 256 = (t2 : Int) := by rw [Int.tmod_eq_emod_of_nonneg (by omega)]; exact w3
  have w4 : (tt : Int) - 512 = (k : Int) := by omega
  obtain ⟨tp, htp⟩ : ∃ x, tt + 1 = x := ⟨_, rfl⟩
  have w5 : (tt : Int) + 1 = (tp : Int) := by omega
  have w6 : (tp : Int) - 512 = (k1 : Int) := by omega
  have l5 : (tp : Int) < 3800 := by omega
  have l6 : (t1 : Int) < 15 := by omega
  have l7 : (t2 : Int) < 256 := by omega
  obtain ⟨B1, hB1⟩ : ∃ x, b1.toNat = x := ⟨_, rfl⟩
  obtain ⟨B2, hB2⟩ : ∃ x, b2.toNat = x := ⟨_, rfl⟩
  have w7 : (32 : Int) + (t1 : Int) = (B1 : Int) := by omega
  have w7' : IntKind.u8.wrap ((32 : Int) + (t1 : Int)) = (B1 : Int) := by rw [IntKind.wrap_u8]; omega
  have w8 : (t2 : Int) = (B2 : Int) := by omega
  have hBB : Hid (b1.toNat = B1 ∧ b2.toNat = B2 ∧ t2 = B2) := ⟨hB1, hB2, by omega⟩
  have l8 : (B1 : Int) < 256 := by omega
  have hbb : Hid (k + 1 = k1) := hk1
  clear hto hk hk1 ht1 ht2 hb1 hb2 hB1 hB2 htp h3 hml w8
  have q1 : ((e1 : Int) != 0) = true := by simp; omega
  have q2 : ((e1 : Int) == 1) = true := by simp; omega
  clear he
  go_enter Try.func3, Try.ntmps3
  go_upto_region 9 with (first
    | ((with_reducible refine at_st rtG (w.heap.size) C C2 ?_ ?_ ?_ ?_ (.tmp 3) (.tmp 32) ?_ ?_ ?_ ?_ ?_); exact K4.out.1.bx 0 _ _ _ rfl; exact gC.out; exact (K4.out.2.1).lies.size.1; exact (K4.out.2.1).lies.size.2.1; rfl; rfl; rfl; rfl; intro y5 H5; have K5 : Hid (Fm w [(w.heap.size, C2, 27), (w.heap.size + 1, D, 30)] y5 ∧ GO w.heap.size y5 C2 g ∧ True) := ⟨K4.out.1.put 0 _ _ _ _ rfl H5.out, (K4.out.2.1).offT (K4.out.1.bx 0 _ _ _ rfl) (by decide) (by decide) H5.out.2.2, trivial⟩; clear H5)
    | (go_at_call 9; refine (copied_any y3 C g (hg.out.below K3.out.1.low) nst.out.1 nst.out.2.1 nst.out.2.2).mono ?_; rintro e y4 ⟨C2, rfl, H⟩; have K4 : Hid (Fm w [(w.heap.size, C, 27), (w.heap.size + 1, D, 30)] y4 ∧ GO w.heap.size y4 C2 g ∧ True) := ⟨K3.out.1.below H.out.2, H.out.1.weak K3.out.1.low.size, trivial⟩; clear H)
    | (go_at_call 8; refine (pick_any y3 a 3227 ha (by decide)).mono ?_; rintro e yp ⟨rfl, ep⟩; replace ep := ep.symm; subst ep; rw [hP.out])
    | (go_at_call 7; refine (rcheck_gl y2 C g (hg.out.below K2.out.1.low)).mono ?_; rintro e y3 ⟨rfl, H⟩; have K3 : Hid (Fm w [(w.heap.size, C, 27), (w.heap.size + 1, D, 30)] y3 ∧ True) := ⟨K2.out.1.below H, trivial⟩; rw [hm.out]; clear H)
    | (go_at_call 6; refine (vast_gl y1 C D g f (hg.out.below K1.out.1.low) (hf.out.below K1.out.1.low)).mono ?_; rintro e y2 ⟨rfl, H⟩; have K2 : Hid (Fm w [(w.heap.size, C, 27), (w.heap.size + 1, D, 30)] y2 ∧ True) := ⟨K1.out.1.below H, trivial⟩; rw [hv.out]; clear H)
    | (go_at_call 5; refine (awake_any y0).mono ?_; rintro e y1 ⟨rfl, H⟩; have K1 : Hid (Fm w [(w.heap.size, C, 27), (w.heap.size + 1, D, 30)] y1 ∧ True) := ⟨K0.out.1.below H, trivial⟩; clear H)
    | ((with_reducible refine gen_world ((w.alloc (.cells C 27)).alloc (.cells D 30)) (fun y => Fm w [(w.heap.size, C, 27), (w.heap.size + 1, D, 30)] y ∧ True) ?_ ?_); (exact ⟨Fm.two w _ _ _ _ , trivial⟩); intro y0 K0)
    | ((with_reducible refine at_load rtG (w.heap.size) C ?_ ?_ (.tmp 3) ?_ ?_ ?_ ?_); (first | exact K3.out.1.bx 0 _ _ _ rfl | exact K2.out.1.bx 0 _ _ _ rfl | exact K1.out.1.bx 0 _ _ _ rfl); (first | exact gC.out | exact (K3.out.2.1).lies.size.1 | exact (K2.out.2.1).lies.size.1 | exact (K1.out.2.1).lies.size.1); kernel_rfl; rfl; rfl)
    | ((with_reducible refine at_load rtFn (w.heap.size + 1) D ?_ ?_ (.tmp 4) ?_ ?_ ?_ ?_); (first | exact K1.out.1.bx 1 _ _ _ rfl); (first | exact gD.out); kernel_rfl; rfl; rfl))
  obtain ⟨gM, cM, hM⟩ := (K5.out.2.1).memC (by rw [hml'.out]; decide)
  rw [hml'.out] at hM
  have hM' : Hid (C2[22]? = some (.slice (some ⟨gM, 0, none⟩) 3232 cM)) := hM
  have c22 := (K5.out.1.bx 0 _ _ _ rfl).c 22 _ hM
  have c17 := (K5.out.1.bx 0 _ _ _ rfl).c 17 _ ((K5.out.2.1).cells).choose_spec.choose_spec.choose_spec.choose_spec.1
  have z17 := (K5.out.1.bx 0 _ _ _ rfl).fz 17
  obtain ⟨lM, ⟨csM, xM⟩, ⟨v0, d0⟩, f0, _⟩ := (K5.out.2.1).setMe hM 0 (by rw [hml'.out]; decide)
  obtain ⟨_, _, ⟨v1, d1⟩, f1, _⟩ := (K5.out.2.1).setMe hM 1 (by rw [hml'.out]; decide)
  obtain ⟨C3, hC3⟩ : ∃ x, Hid (x = C2.setIfInBounds 17 (.int .u16 512)) := ⟨_, (rfl : C2.setIfInBounds 17 (.int .u16 512) = _)⟩
  have hM3 : Hid (C3[22]? = some (.slice (some ⟨gM, 0, none⟩) 3232 cM)) := by rw [hC3.out]; show _ = _; rw [Array.getElem?_setIfInBounds_ne (by decide)]; exact hM
  have ix0 := fun v => idxB .i64 gM 0 3232 cM 0 v (by decide)
  have ix1 := fun v => idxB .i64 gM 0 3232 cM 1 v (by decide)
  rw [show ((0 : Nat) : Int) = 0 from rfl] at ix0
  rw [show ((1 : Nat) : Int) = 1 from rfl] at ix1
  simp only [Nat.zero_add] at ix0 ix1
  have A1 : Hid (Fm w [(w.heap.size, C3, 27), (w.heap.size + 1, D, 30)] (((y5.setCell ⟨w.heap.size, 17, none⟩ (.int .u16 512)).setCell ⟨gM, 0, none⟩ (.int .u8 (B1 : Int))).setCell ⟨gM, 1, none⟩ (.int .u8 (t2 : Int))) ∧ GO w.heap.size (((y5.setCell ⟨w.heap.size, 17, none⟩ (.int .u16 512)).setCell ⟨gM, 0, none⟩ (.int .u8 (B1 : Int))).setCell ⟨gM, 1, none⟩ (.int .u8 (t2 : Int))) C3 { g with pc := 512, me := (g.me.set 0 b1).set 1 b2 } ∧ True) := by
    rw [← hBB.out.1, show (t2 : Int) = (b2.toNat : Int) from by have := hBB.out; omega]
    have F1 := K5.out.1.setCell 0 _ _ _ _ rfl 17 (.int .u16 512) hC3.out.symm
    have J1 := ((K5.out.2.1).offT (K5.out.1.bx 0 _ _ _ rfl) (by decide) (by decide) (fun q hq => heap_setCell_other y5 ⟨w.heap.size, 17, none⟩ q (.int .u16 512) hq)).setPC 512 (by decide)
    rw [show C2.setIfInBounds 17 (.int .u16 ((512 : Nat) : Int)) = C3 from hC3.out.symm] at J1
    obtain ⟨lb, ⟨cs1, x1⟩, _, _, J2⟩ := J1.setMe hM3.out 0 (by show 0 < g.me.length; rw [hml'.out]; decide)
    have F2 := F1.offU x1 lb boxT2 0 (.int .u8 (b1.toNat : Int))
    obtain ⟨_, ⟨cs2, x2⟩, _, _, J3⟩ := (J2 b1).setMe hM3.out 1 (by show 1 < (g.me.set 0 b1).length; rw [List.length_set, hml'.out]; decide)
    exact ⟨F2.offU x2 lb boxT2 1 _, J3 b2, trivial⟩
  go_upto_region 12 with (fail)
  generalize ((y5.setCell ⟨w.heap.size, 17, none⟩ (.int .u16 512)).setCell ⟨gM, 0, none⟩ (.int .u8 (B1 : Int))).setCell ⟨gM, 1, none⟩ (.int .u8 (t2 : Int)) = ya at A1 ⊢
  clear c22 c17 z17 d0 f0 d1 f1 hM xM lM
  have c22a := (A1.out.1.bx 0 _ _ _ rfl).c 22 _ hM3.out
  have hla : Hid (((g.me.set 0 b1).set 1 b2).length = 3232) := by show _ = _; rw [List.length_set, List.length_set, hml'.out]
  obtain ⟨lMa, ⟨csa, xa⟩, ⟨va, da⟩, fa, Ja⟩ := A1.out.2.1.setMe hM3.out k (by show k < ((g.me.set 0 b1).set 1 b2).length; rw [hla.out]; have := l2'.out; omega)
  have ixk := fun v => idxB .i64 gM 0 3232 cM k v (by have := l2'.out; omega)
  simp only [Nat.zero_add] at ixk
  have A2 : Hid (Fm w [(w.heap.size, C3, 27), (w.heap.size + 1, D, 30)] (ya.setCell ⟨gM, k, none⟩ (.int .u8 0)) ∧ GO w.heap.size (ya.setCell ⟨gM, k, none⟩ (.int .u8 0)) C3 { g with pc := 512, me := ((g.me.set 0 b1).set 1 b2).set k 0 } ∧ True) := ⟨A1.out.1.offU xa lMa boxT2 k _, Ja 0, trivial⟩
  clear Ja xa lMa
  go_upto_region 13 with (fail)
  generalize ya.setCell ⟨gM, k, none⟩ (.int .u8 0) = yb at A2 ⊢
  clear c22a da fa
  have c22b := (A2.out.1.bx 0 _ _ _ rfl).c 22 _ hM3.out
  obtain ⟨lMb, ⟨csb, xb⟩, ⟨vb, db⟩, fb, Jb⟩ := A2.out.2.1.setMe hM3.out k1 (by show k1 < (((g.me.set 0 b1).set 1 b2).set k 0).length; rw [List.length_set, hla.out]; have := l2'.out; have := hbb.out; omega)
  have ixk1 := fun v => idxB .i64 gM 0 3232 cM k1 v (by have := l2'.out; have := hbb.out; omega)
  simp only [Nat.zero_add] at ixk1
  have A3 : Hid (Fm w [(w.heap.size, C3, 27), (w.heap.size + 1, D, 30)] (yb.setCell ⟨gM, k1, none⟩ (.int .u8 238)) ∧ GO w.heap.size (yb.setCell ⟨gM, k1, none⟩ (.int .u8 238)) C3 G2 ∧ True) := by
    rw [hG2.out]
    exact ⟨A2.out.1.offU xb lMb boxT2 k1 _, Jb 238, trivial⟩
  clear Jb xb lMb
  go_upto_region 14 with (fail)
  generalize yb.setCell ⟨gM, k1, none⟩ (.int .u8 238) = y20 at A3 ⊢
  have K20 : Hid (Fm w [(w.heap.size, C3, 27), (w.heap.size + 1, D, 30)] y20 ∧ GO w.heap.size y20 C3 G2 ∧ True) := A3
  clear c22b db fb A3 A1 A2
  go_wp2_with (first
    | ((with_reducible refine at_st rtG y23.heap.size #[.int .u8 0, .int .u8 0, .int .u8 0, .int .u8 0, .int .u8 0, .int .u8 0, .int .u8 0, .int .u8 0, .int .u8 0, .int .u8 0, .int .u8 0, .int .u8 0, .int .u8 0, .int .u8 0, .int .u8 0, .int .u8 0, .int .u16 0, .int .u16 0, .slice none 0 0, .int .u8 0, .int .u8 0, .slice none 0 0, .slice none 0 0] C4 ?_ ?_ ?_ ?_ (.tmp 11) (.tmp 64) ?_ ?_ ?_ ?_ ?_); exact K24.out.1.bx 3 _ _ _ rfl; rfl; exact (K24.out.2.2.1).lies.size.1; exact (K24.out.2.2.1).lies.size.2.1; rfl; rfl; rfl; rfl; intro y25 H25; have K25 : Hid (Fm w [(w.heap.size, C3, 27), (w.heap.size + 1, D, 30), (y20.heap.size, #[.int .u8 0, .int .u16 0, .int .i64 (-1)], 38), (y23.heap.size, C4, 27)] y25 ∧ GO w.heap.size y25 C3 G2 ∧ GO w.heap.size y25 C4 s1 ∧ True) := ⟨K24.out.1.put 3 _ _ _ _ rfl H25.out, (K24.out.2.1).offT (K24.out.1.bx 3 _ _ _ rfl) (by decide) (by decide) H25.out.2.2, (K24.out.2.2.1).offT (K24.out.1.bx 3 _ _ _ rfl) (by decide) (by decide) H25.out.2.2, trivial⟩; clear H25 K24)
    | ((with_reducible refine gen_world (y23.alloc (.cells #[.int .u8 0, .int .u8 0, .int .u8 0, .int .u8 0, .int .u8 0, .int .u8 0, .int .u8 0, .int .u8 0, .int .u8 0, .int .u8 0, .int .u8 0, .int .u8 0, .int .u8 0, .int .u8 0, .int .u8 0, .int .u8 0, .int .u16 0, .int .u16 0, .slice none 0 0, .int .u8 0, .int .u8 0, .slice none 0 0, .slice none 0 0] 27)) (fun y => Fm w [(w.heap.size, C3, 27), (w.heap.size + 1, D, 30), (y20.heap.size, #[.int .u8 0, .int .u16 0, .int .i64 (-1)], 38), (y23.heap.size, #[.int .u8 0, .int .u8 0, .int .u8 0, .int .u8 0, .int .u8 0, .int .u8 0, .int .u8 0, .int .u8 0, .int .u8 0, .int .u8 0, .int .u8 0, .int .u8 0, .int .u8 0, .int .u8 0, .int .u8 0, .int .u8 0, .int .u16 0, .int .u16 0, .slice none 0 0, .int .u8 0, .int .u8 0, .slice none 0 0, .slice none 0 0], 27)] y ∧ GO w.heap.size y C3 G2 ∧ GO w.heap.size y C4 s1 ∧ True) ?_ ?_); (exact ⟨K23.out.1.new _ _, (K23.out.2.1).below (below1 y23 _), (K23.out.2.2.1).below (below1 y23 _), trivial⟩); intro y24 K24)
    | (go_at_call 10; refine (step_aw2 y22 C3 D G2 f (K22.out.2.1).lies (hf.out.below K22.out.1.low) hsG.out s1 o1 e1 hs1.out).mono ?_; rintro e y23 ⟨C4, rfl, J, H⟩; have K23 : Hid (Fm w [(w.heap.size, C3, 27), (w.heap.size + 1, D, 30), (y20.heap.size, #[.int .u8 0, .int .u16 0, .int .i64 (-1)], 38)] y23 ∧ GO w.heap.size y23 C3 G2 ∧ GO w.heap.size y23 C4 s1 ∧ True) := ⟨K22.out.1.below H, (K22.out.2.1).below H, J.weak K22.out.1.low.size, trivial⟩; clear H J)
    | ((with_reducible refine at_st rtFd y20.heap.size #[.int .u8 0, .int .u16 0, .int .i64 0] #[.int .u8 0, .int .u16 0, .int .i64 (-1)] ?_ ?_ ?_ ?_ (.tmp 10) (.tmp 58) ?_ ?_ ?_ ?_ ?_); exact K21.out.1.bx 2 _ _ _ rfl; rfl; rfl; exact dCs_one fd0; rfl; rfl; rfl; rfl; intro y22 H22; have K22 : Hid (Fm w [(w.heap.size, C3, 27), (w.heap.size + 1, D, 30), (y20.heap.size, #[.int .u8 0, .int .u16 0, .int .i64 (-1)], 38)] y22 ∧ GO w.heap.size y22 C3 G2 ∧ True) := ⟨K21.out.1.put 2 _ _ _ _ rfl H22.out, (K21.out.2.1).offT (K21.out.1.bx 2 _ _ _ rfl) (by decide) (by decide) H22.out.2.2, trivial⟩; clear H22 K21)
    | ((with_reducible refine gen_world (y20.alloc (.cells #[.int .u8 0, .int .u16 0, .int .i64 0] 38)) (fun y => Fm w [(w.heap.size, C3, 27), (w.heap.size + 1, D, 30), (y20.heap.size, #[.int .u8 0, .int .u16 0, .int .i64 0], 38)] y ∧ GO w.heap.size y C3 G2 ∧ True) ?_ ?_); (exact ⟨K20.out.1.new _ _, (K20.out.2.1).below (below1 y20 _), trivial⟩); intro y21 K21)
    | ((with_reducible refine at_bu #[(2, .const (.int .i64 (-1)))] [(2, .int .i64 (-1))] #[.int .u8 0, .int .u16 0, .int .i64 (-1)] ?_ ?_ ?_ builtD0 ?_); kernel_rfl; rfl; kernel_rfl)
    | ((with_reducible refine at_load rtG (w.heap.size) C3 ?_ ?_ (.tmp 3) ?_ ?_ ?_ ?_); (first | exact K22.out.1.bx 0 _ _ _ rfl); (first | exact (K22.out.2.1).lies.size.1); kernel_rfl; rfl; rfl)
    | ((with_reducible refine at_load rtFn (w.heap.size + 1) D ?_ ?_ (.tmp 4) ?_ ?_ ?_ ?_); (first | exact K22.out.1.bx 1 _ _ _ rfl); (first | exact gD.out); kernel_rfl; rfl; rfl)
    | ((with_reducible refine at_load rtFd (y20.heap.size) #[.int .u8 0, .int .u16 0, .int .i64 (-1)] ?_ ?_ (.tmp 10) ?_ ?_ ?_ ?_); (first | exact K22.out.1.bx 2 _ _ _ rfl); (first | rfl); kernel_rfl; rfl; rfl))
  go_ret
  exact ⟨rfl, K25.out.1.low⟩

theorem calls_deep (w : World) (C D : Array Value) (g : Gm) (f : Fo) (a : Int) (hg : Hid (GL w C g)) (hf : Hid (FL w D f)) (ha : -9223372036854775808 ≤ a ∧ a ≤ 9223372036854775807) (hv : Hid (vasG g.st.length g.pg.length g.me.length f.by_.length = false)) (hm : Hid (g.may = true)) (hs : Hid (smaG g f)) (P tt k k1 : Nat) (hP : Hid ((if a < 0 then -(a + 1) else a) % 3227 = (P : Int))) (hto : 516 + P = tt) (hk : tt - 512 = k) (hk1 : k + 1 = k1) (t1 t2 : Nat) (ht1 : tt / 256 = t1) (ht2 : tt % 256 = t2) (b1 b2 : UInt8) (hb1 : b1.toNat = 32 + t1) (hb2 : b2.toNat = t2) (h3 : P < 3227) (G2 : Gm) (hG2 : Hid (G2 = { g with pc := 512, me := (((g.me.set 0 b1).set 1 b2).set k 0).set k1 238 })) (hsG : Hid (smaG G2 f)) (s1 : Gm) (o1 e1 : Nat) (hs1 : Hid (stepG G2 f fd0 = (s1, o1, e1))) (he : e1 = 0) (ho : o1 = 5) (n : Nat) (hst : Hid (G2.st.length = n)) (hn : n = 12) (hsm : Hid (decide (s1 = G2) = true)) (hl1 : Hid (s1.st.length ≤ 4000000000)) (hl2 : Hid (G2.st.length ≤ 4000000000)) :
    Calls Try.prog 3 #[.agg C, .agg D, .int .i64 a] w fun e w' => e = .returned (.bool true) ∧ Below w.heap.size w w' := by
  have gC : Hid (C.size = 23) := hg.out.size.1
  have gD : Hid (D.size = 18) := hf.out.size
  have nst : Hid (g.st.length ≤ 4000000000 ∧ g.pg.length ≤ 4000000000 ∧ g.me.length ≤ 4000000000) := by have := hs.out; unfold smaG at this; exact ⟨by omega, by omega, by omega⟩
  have hml := (may_iff.1 hm.out).2.1
  have hml' : Hid (g.me.length = 3232) := hml
  have l1 : (tt : Int) < 3743 := by omega
  have l1b : (516 : Int) ≤ (tt : Int) := by omega
  have l2 : (k : Int) < 3231 := by omega
  have l2' : Hid (k < 3231 ∧ 4 ≤ k) := ⟨by omega, by omega⟩
  have l3 : (k1 : Int) < 3232 := by omega
  have w1 : (516 : Int) + (P : Int) = (tt : Int) := by omega
  have w2 : (tt : Int) / 256 = (t1 : Int) := by omega
  have w2' : Int.tdiv (tt : Int) 256 = (t1 : Int) := by rw [Int.tdiv_eq_ediv_of_nonneg (by omega)]; exact w2
  have w3 : (tt : Int) % 256 = (t2 : Int) := by omega
  have w3' : Int.tmod (tt : Int) 256 = (t2 : Int) := by rw [Int.tmod_eq_emod_of_nonneg (by omega)]; exact w3
  have w4 : (tt : Int) - 512 = (k : Int) := by omega
  obtain ⟨tp, htp⟩ : ∃ x, tt + 1 = x := ⟨_, rfl⟩
  have w5 : (tt : Int) + 1 = (tp : Int) := by omega
  have w6 : (tp : Int) - 512 = (k1 : Int) := by omega
  have l5 : (tp : Int) < 3800 := by omega
  have l6 : (t1 : Int) < 15 := by omega
  have l7 : (t2 : Int) < 256 := by omega
  obtain ⟨B1, hB1⟩ : ∃ x, b1.toNat = x := ⟨_, rfl⟩
  obtain ⟨B2, hB2⟩ : ∃ x, b2.toNat = x := ⟨_, rfl⟩
  have w7 : (32 : Int) + (t1 : Int) = (B1 : Int) := by omega
  have w7' : IntKind.u8.wrap ((32 : Int) + (t1 : Int)) = (B1 : Int) := by rw [IntKind.wrap_u8]; omega
  have w8 : (t2 : Int) = (B2 : Int) := by omega
  have hBB : Hid (b1.toNat = B1 ∧ b2.toNat = B2 ∧ t2 = B2) := ⟨hB1, hB2, by omega⟩
  have l8 : (B1 : Int) < 256 := by omega
  have hbb : Hid (k + 1 = k1) := hk1
  clear hto hk hk1 ht1 ht2 hb1 hb2 hB1 hB2 htp h3 hml w8
  have q1 : ((e1 : Int) != 0) = false := by simp; omega
  have q2 : ((o1 : Int) == 5) = true := by simp; omega
  have q3 : ((n : Int) == 12) = true := by simp; omega
  clear he ho hn
  go_enter Try.func3, Try.ntmps3
  go_upto_region 9 with (first
    | ((with_reducible refine at_st rtG (w.heap.size) C C2 ?_ ?_ ?_ ?_ (.tmp 3) (.tmp 32) ?_ ?_ ?_ ?_ ?_); exact K4.out.1.bx 0 _ _ _ rfl; exact gC.out; exact (K4.out.2.1).lies.size.1; exact (K4.out.2.1).lies.size.2.1; rfl; rfl; rfl; rfl; intro y5 H5; have K5 : Hid (Fm w [(w.heap.size, C2, 27), (w.heap.size + 1, D, 30)] y5 ∧ GO w.heap.size y5 C2 g ∧ True) := ⟨K4.out.1.put 0 _ _ _ _ rfl H5.out, (K4.out.2.1).offT (K4.out.1.bx 0 _ _ _ rfl) (by decide) (by decide) H5.out.2.2, trivial⟩; clear H5)
    | (go_at_call 9; refine (copied_any y3 C g (hg.out.below K3.out.1.low) nst.out.1 nst.out.2.1 nst.out.2.2).mono ?_; rintro e y4 ⟨C2, rfl, H⟩; have K4 : Hid (Fm w [(w.heap.size, C, 27), (w.heap.size + 1, D, 30)] y4 ∧ GO w.heap.size y4 C2 g ∧ True) := ⟨K3.out.1.below H.out.2, H.out.1.weak K3.out.1.low.size, trivial⟩; clear H)
    | (go_at_call 8; refine (pick_any y3 a 3227 ha (by decide)).mono ?_; rintro e yp ⟨rfl, ep⟩; replace ep := ep.symm; subst ep; rw [hP.out])
    | (go_at_call 7; refine (rcheck_gl y2 C g (hg.out.below K2.out.1.low)).mono ?_; rintro e y3 ⟨rfl, H⟩; have K3 : Hid (Fm w [(w.heap.size, C, 27), (w.heap.size + 1, D, 30)] y3 ∧ True) := ⟨K2.out.1.below H, trivial⟩; rw [hm.out]; clear H)
    | (go_at_call 6; refine (vast_gl y1 C D g f (hg.out.below K1.out.1.low) (hf.out.below K1.out.1.low)).mono ?_; rintro e y2 ⟨rfl, H⟩; have K2 : Hid (Fm w [(w.heap.size, C, 27), (w.heap.size + 1, D, 30)] y2 ∧ True) := ⟨K1.out.1.below H, trivial⟩; rw [hv.out]; clear H)
    | (go_at_call 5; refine (awake_any y0).mono ?_; rintro e y1 ⟨rfl, H⟩; have K1 : Hid (Fm w [(w.heap.size, C, 27), (w.heap.size + 1, D, 30)] y1 ∧ True) := ⟨K0.out.1.below H, trivial⟩; clear H)
    | ((with_reducible refine gen_world ((w.alloc (.cells C 27)).alloc (.cells D 30)) (fun y => Fm w [(w.heap.size, C, 27), (w.heap.size + 1, D, 30)] y ∧ True) ?_ ?_); (exact ⟨Fm.two w _ _ _ _ , trivial⟩); intro y0 K0)
    | ((with_reducible refine at_load rtG (w.heap.size) C ?_ ?_ (.tmp 3) ?_ ?_ ?_ ?_); (first | exact K3.out.1.bx 0 _ _ _ rfl | exact K2.out.1.bx 0 _ _ _ rfl | exact K1.out.1.bx 0 _ _ _ rfl); (first | exact gC.out | exact (K3.out.2.1).lies.size.1 | exact (K2.out.2.1).lies.size.1 | exact (K1.out.2.1).lies.size.1); kernel_rfl; rfl; rfl)
    | ((with_reducible refine at_load rtFn (w.heap.size + 1) D ?_ ?_ (.tmp 4) ?_ ?_ ?_ ?_); (first | exact K1.out.1.bx 1 _ _ _ rfl); (first | exact gD.out); kernel_rfl; rfl; rfl))
  obtain ⟨gM, cM, hM⟩ := (K5.out.2.1).memC (by rw [hml'.out]; decide)
  rw [hml'.out] at hM
  have hM' : Hid (C2[22]? = some (.slice (some ⟨gM, 0, none⟩) 3232 cM)) := hM
  have c22 := (K5.out.1.bx 0 _ _ _ rfl).c 22 _ hM
  have c17 := (K5.out.1.bx 0 _ _ _ rfl).c 17 _ ((K5.out.2.1).cells).choose_spec.choose_spec.choose_spec.choose_spec.1
  have z17 := (K5.out.1.bx 0 _ _ _ rfl).fz 17
  obtain ⟨lM, ⟨csM, xM⟩, ⟨v0, d0⟩, f0, _⟩ := (K5.out.2.1).setMe hM 0 (by rw [hml'.out]; decide)
  obtain ⟨_, _, ⟨v1, d1⟩, f1, _⟩ := (K5.out.2.1).setMe hM 1 (by rw [hml'.out]; decide)
  obtain ⟨C3, hC3⟩ : ∃ x, Hid (x = C2.setIfInBounds 17 (.int .u16 512)) := ⟨_, (rfl : C2.setIfInBounds 17 (.int .u16 512) = _)⟩
  have hM3 : Hid (C3[22]? = some (.slice (some ⟨gM, 0, none⟩) 3232 cM)) := by rw [hC3.out]; show _ = _; rw [Array.getElem?_setIfInBounds_ne (by decide)]; exact hM
  have ix0 := fun v => idxB .i64 gM 0 3232 cM 0 v (by decide)
  have ix1 := fun v => idxB .i64 gM 0 3232 cM 1 v (by decide)
  rw [show ((0 : Nat) : Int) = 0 from rfl] at ix0
  rw [show ((1 : Nat) : Int) = 1 from rfl] at ix1
  simp only [Nat.zero_add] at ix0 ix1
  have A1 : Hid (Fm w [(w.heap.size, C3, 27), (w.heap.size + 1, D, 30)] (((y5.setCell ⟨w.heap.size, 17, none⟩ (.int .u16 512)).setCell ⟨gM, 0, none⟩ (.int .u8 (B1 : Int))).setCell ⟨gM, 1, none⟩ (.int .u8 (t2 : Int))) ∧ GO w.heap.size (((y5.setCell ⟨w.heap.size, 17, none⟩ (.int .u16 512)).setCell ⟨gM, 0, none⟩ (.int .u8 (B1 : Int))).setCell ⟨gM, 1, none⟩ (.int .u8 (t2 : Int))) C3 { g with pc := 512, me := (g.me.set 0 b1).set 1 b2 } ∧ True) := by
    rw [← hBB.out.1, show (t2 : Int) = (b2.toNat : Int) from by have := hBB.out; omega]
    have F1 := K5.out.1.setCell 0 _ _ _ _ rfl 17 (.int .u16 512) hC3.out.symm
    have J1 := ((K5.out.2.1).offT (K5.out.1.bx 0 _ _ _ rfl) (by decide) (by decide) (fun q hq => heap_setCell_other y5 ⟨w.heap.size, 17, none⟩ q (.int .u16 512) hq)).setPC 512 (by decide)
    rw [show C2.setIfInBounds 17 (.int .u16 ((512 : Nat) : Int)) = C3 from hC3.out.symm] at J1
    obtain ⟨lb, ⟨cs1, x1⟩, _, _, J2⟩ := J1.setMe hM3.out 0 (by show 0 < g.me.length; rw [hml'.out]; decide)
    have F2 := F1.offU x1 lb boxT2 0 (.int .u8 (b1.toNat : Int))
    obtain ⟨_, ⟨cs2, x2⟩, _, _, J3⟩ := (J2 b1).setMe hM3.out 1 (by show 1 < (g.me.set 0 b1).length; rw [List.length_set, hml'.out]; decide)
    exact ⟨F2.offU x2 lb boxT2 1 _, J3 b2, trivial⟩
  go_upto_region 12 with (fail)
  generalize ((y5.setCell ⟨w.heap.size, 17, none⟩ (.int .u16 512)).setCell ⟨gM, 0, none⟩ (.int .u8 (B1 : Int))).setCell ⟨gM, 1, none⟩ (.int .u8 (t2 : Int)) = ya at A1 ⊢
  clear c22 c17 z17 d0 f0 d1 f1 hM xM lM
  have c22a := (A1.out.1.bx 0 _ _ _ rfl).c 22 _ hM3.out
  have hla : Hid (((g.me.set 0 b1).set 1 b2).length = 3232) := by show _ = _; rw [List.length_set, List.length_set, hml'.out]
  obtain ⟨lMa, ⟨csa, xa⟩, ⟨va, da⟩, fa, Ja⟩ := A1.out.2.1.setMe hM3.out k (by show k < ((g.me.set 0 b1).set 1 b2).length; rw [hla.out]; have := l2'.out; omega)
  have ixk := fun v => idxB .i64 gM 0 3232 cM k v (by have := l2'.out; omega)
  simp only [Nat.zero_add] at ixk
  have A2 : Hid (Fm w [(w.heap.size, C3, 27), (w.heap.size + 1, D, 30)] (ya.setCell ⟨gM, k, none⟩ (.int .u8 0)) ∧ GO w.heap.size (ya.setCell ⟨gM, k, none⟩ (.int .u8 0)) C3 { g with pc := 512, me := ((g.me.set 0 b1).set 1 b2).set k 0 } ∧ True) := ⟨A1.out.1.offU xa lMa boxT2 k _, Ja 0, trivial⟩
  clear Ja xa lMa
  go_upto_region 13 with (fail)
  generalize ya.setCell ⟨gM, k, none⟩ (.int .u8 0) = yb at A2 ⊢
  clear c22a da fa
  have c22b := (A2.out.1.bx 0 _ _ _ rfl).c 22 _ hM3.out
  obtain ⟨lMb, ⟨csb, xb⟩, ⟨vb, db⟩, fb, Jb⟩ := A2.out.2.1.setMe hM3.out k1 (by show k1 < (((g.me.set 0 b1).set 1 b2).set k 0).length; rw [List.length_set, hla.out]; have := l2'.out; have := hbb.out; omega)
  have ixk1 := fun v => idxB .i64 gM 0 3232 cM k1 v (by have := l2'.out; have := hbb.out; omega)
  simp only [Nat.zero_add] at ixk1
  have A3 : Hid (Fm w [(w.heap.size, C3, 27), (w.heap.size + 1, D, 30)] (yb.setCell ⟨gM, k1, none⟩ (.int .u8 238)) ∧ GO w.heap.size (yb.setCell ⟨gM, k1, none⟩ (.int .u8 238)) C3 G2 ∧ True) := by
    rw [hG2.out]
    exact ⟨A2.out.1.offU xb lMb boxT2 k1 _, Jb 238, trivial⟩
  clear Jb xb lMb
  go_upto_region 14 with (fail)
  generalize yb.setCell ⟨gM, k1, none⟩ (.int .u8 238) = y20 at A3 ⊢
  have K20 : Hid (Fm w [(w.heap.size, C3, 27), (w.heap.size + 1, D, 30)] y20 ∧ GO w.heap.size y20 C3 G2 ∧ True) := A3
  clear c22b db fb A3 A1 A2
  go_wp2_with (first
    | (go_at_call 11; refine (rsame_any y25 C4 C3 s1 G2 (K25.out.2.2.1).lies (K25.out.2.1).lies hl1.out hl2.out).mono ?_; rintro e y26 ⟨rfl, H⟩; have K26 : Hid (Fm w [(w.heap.size, C3, 27), (w.heap.size + 1, D, 30), (y20.heap.size, #[.int .u8 0, .int .u16 0, .int .i64 (-1)], 38), (y23.heap.size, C4, 27)] y26 ∧ GO w.heap.size y26 C3 G2 ∧ GO w.heap.size y26 C4 s1 ∧ True) := ⟨K25.out.1.below H, (K25.out.2.1).below H, (K25.out.2.2.1).below H, trivial⟩; rw [hsm.out]; clear H)
    | ((with_reducible refine at_st rtG y23.heap.size #[.int .u8 0, .int .u8 0, .int .u8 0, .int .u8 0, .int .u8 0, .int .u8 0, .int .u8 0, .int .u8 0, .int .u8 0, .int .u8 0, .int .u8 0, .int .u8 0, .int .u8 0, .int .u8 0, .int .u8 0, .int .u8 0, .int .u16 0, .int .u16 0, .slice none 0 0, .int .u8 0, .int .u8 0, .slice none 0 0, .slice none 0 0] C4 ?_ ?_ ?_ ?_ (.tmp 11) (.tmp 64) ?_ ?_ ?_ ?_ ?_); exact K24.out.1.bx 3 _ _ _ rfl; rfl; exact (K24.out.2.2.1).lies.size.1; exact (K24.out.2.2.1).lies.size.2.1; rfl; rfl; rfl; rfl; intro y25 H25; have K25 : Hid (Fm w [(w.heap.size, C3, 27), (w.heap.size + 1, D, 30), (y20.heap.size, #[.int .u8 0, .int .u16 0, .int .i64 (-1)], 38), (y23.heap.size, C4, 27)] y25 ∧ GO w.heap.size y25 C3 G2 ∧ GO w.heap.size y25 C4 s1 ∧ True) := ⟨K24.out.1.put 3 _ _ _ _ rfl H25.out, (K24.out.2.1).offT (K24.out.1.bx 3 _ _ _ rfl) (by decide) (by decide) H25.out.2.2, (K24.out.2.2.1).offT (K24.out.1.bx 3 _ _ _ rfl) (by decide) (by decide) H25.out.2.2, trivial⟩; clear H25 K24; clear cs; have cs := (K25.out.1.bx 0 _ _ _ rfl).c 18 _ eA)
    | ((with_reducible refine gen_world (y23.alloc (.cells #[.int .u8 0, .int .u8 0, .int .u8 0, .int .u8 0, .int .u8 0, .int .u8 0, .int .u8 0, .int .u8 0, .int .u8 0, .int .u8 0, .int .u8 0, .int .u8 0, .int .u8 0, .int .u8 0, .int .u8 0, .int .u8 0, .int .u16 0, .int .u16 0, .slice none 0 0, .int .u8 0, .int .u8 0, .slice none 0 0, .slice none 0 0] 27)) (fun y => Fm w [(w.heap.size, C3, 27), (w.heap.size + 1, D, 30), (y20.heap.size, #[.int .u8 0, .int .u16 0, .int .i64 (-1)], 38), (y23.heap.size, #[.int .u8 0, .int .u8 0, .int .u8 0, .int .u8 0, .int .u8 0, .int .u8 0, .int .u8 0, .int .u8 0, .int .u8 0, .int .u8 0, .int .u8 0, .int .u8 0, .int .u8 0, .int .u8 0, .int .u8 0, .int .u8 0, .int .u16 0, .int .u16 0, .slice none 0 0, .int .u8 0, .int .u8 0, .slice none 0 0, .slice none 0 0], 27)] y ∧ GO w.heap.size y C3 G2 ∧ GO w.heap.size y C4 s1 ∧ True) ?_ ?_); (exact ⟨K23.out.1.new _ _, (K23.out.2.1).below (below1 y23 _), (K23.out.2.2.1).below (below1 y23 _), trivial⟩); intro y24 K24)
    | (go_at_call 10; refine (step_aw2 y22 C3 D G2 f (K22.out.2.1).lies (hf.out.below K22.out.1.low) hsG.out s1 o1 e1 hs1.out).mono ?_; rintro e y23 ⟨C4, rfl, J, H⟩; have K23 : Hid (Fm w [(w.heap.size, C3, 27), (w.heap.size + 1, D, 30), (y20.heap.size, #[.int .u8 0, .int .u16 0, .int .i64 (-1)], 38)] y23 ∧ GO w.heap.size y23 C3 G2 ∧ GO w.heap.size y23 C4 s1 ∧ True) := ⟨K22.out.1.below H, (K22.out.2.1).below H, J.weak K22.out.1.low.size, trivial⟩; clear H J; obtain ⟨sA, cA, eA⟩ := (K23.out.2.1).stC; rw [hst.out] at eA; have cs := (K23.out.1.bx 0 _ _ _ rfl).c 18 _ eA)
    | ((with_reducible refine at_st rtFd y20.heap.size #[.int .u8 0, .int .u16 0, .int .i64 0] #[.int .u8 0, .int .u16 0, .int .i64 (-1)] ?_ ?_ ?_ ?_ (.tmp 10) (.tmp 58) ?_ ?_ ?_ ?_ ?_); exact K21.out.1.bx 2 _ _ _ rfl; rfl; rfl; exact dCs_one fd0; rfl; rfl; rfl; rfl; intro y22 H22; have K22 : Hid (Fm w [(w.heap.size, C3, 27), (w.heap.size + 1, D, 30), (y20.heap.size, #[.int .u8 0, .int .u16 0, .int .i64 (-1)], 38)] y22 ∧ GO w.heap.size y22 C3 G2 ∧ True) := ⟨K21.out.1.put 2 _ _ _ _ rfl H22.out, (K21.out.2.1).offT (K21.out.1.bx 2 _ _ _ rfl) (by decide) (by decide) H22.out.2.2, trivial⟩; clear H22 K21)
    | ((with_reducible refine gen_world (y20.alloc (.cells #[.int .u8 0, .int .u16 0, .int .i64 0] 38)) (fun y => Fm w [(w.heap.size, C3, 27), (w.heap.size + 1, D, 30), (y20.heap.size, #[.int .u8 0, .int .u16 0, .int .i64 0], 38)] y ∧ GO w.heap.size y C3 G2 ∧ True) ?_ ?_); (exact ⟨K20.out.1.new _ _, (K20.out.2.1).below (below1 y20 _), trivial⟩); intro y21 K21)
    | ((with_reducible refine at_bu #[(2, .const (.int .i64 (-1)))] [(2, .int .i64 (-1))] #[.int .u8 0, .int .u16 0, .int .i64 (-1)] ?_ ?_ ?_ builtD0 ?_); kernel_rfl; rfl; kernel_rfl)
    | ((with_reducible refine at_load rtG (w.heap.size) C3 ?_ ?_ (.tmp 3) ?_ ?_ ?_ ?_); (first | exact K25.out.1.bx 0 _ _ _ rfl | exact K22.out.1.bx 0 _ _ _ rfl); (first | exact (K25.out.2.1).lies.size.1 | exact (K22.out.2.1).lies.size.1); kernel_rfl; rfl; rfl)
    | ((with_reducible refine at_load rtFn (w.heap.size + 1) D ?_ ?_ (.tmp 4) ?_ ?_ ?_ ?_); (first | exact K22.out.1.bx 1 _ _ _ rfl); (first | exact gD.out); kernel_rfl; rfl; rfl)
    | ((with_reducible refine at_load rtFd (y20.heap.size) #[.int .u8 0, .int .u16 0, .int .i64 (-1)] ?_ ?_ (.tmp 10) ?_ ?_ ?_ ?_); (first | exact K22.out.1.bx 2 _ _ _ rfl); (first | rfl); kernel_rfl; rfl; rfl)
    | ((with_reducible refine at_load rtG (y23.heap.size) C4 ?_ ?_ (.tmp 11) ?_ ?_ ?_ ?_); (first | exact K25.out.1.bx 3 _ _ _ rfl); (first | exact (K25.out.2.2.1).lies.size.1); kernel_rfl; rfl; rfl))
  go_ret
  exact ⟨rfl, K26.out.1.low⟩

theorem calls_back (w : World) (C D : Array Value) (g : Gm) (f : Fo) (a : Int) (hg : Hid (GL w C g)) (hf : Hid (FL w D f)) (ha : -9223372036854775808 ≤ a ∧ a ≤ 9223372036854775807) (hv : Hid (vasG g.st.length g.pg.length g.me.length f.by_.length = false)) (hm : Hid (g.may = true)) (hs : Hid (smaG g f)) (P tt k k1 : Nat) (hP : Hid ((if a < 0 then -(a + 1) else a) % 3227 = (P : Int))) (hto : 516 + P = tt) (hk : tt - 512 = k) (hk1 : k + 1 = k1) (t1 t2 : Nat) (ht1 : tt / 256 = t1) (ht2 : tt % 256 = t2) (b1 b2 : UInt8) (hb1 : b1.toNat = 32 + t1) (hb2 : b2.toNat = t2) (h3 : P < 3227) (G2 : Gm) (hG2 : Hid (G2 = { g with pc := 512, me := (((g.me.set 0 b1).set 1 b2).set k 0).set k1 238 })) (hsG : Hid (smaG G2 f)) (s1 : Gm) (o1 e1 : Nat) (hs1 : Hid (stepG G2 f fd0 = (s1, o1, e1))) (he : e1 = 0) (ho : o1 = 1) (n n1 : Nat) (hst : Hid (G2.st.length = n)) (hn : n ≠ 12) (hn12 : n ≤ 12) (hn1 : n + 1 = n1) (hst1 : Hid (s1.st.length = n1)) (hpc1 : Hid (s1.pc = tt)) (hv514 : Hid (s1.st.getD n 0 = 514)) (hsS : Hid (smaG s1 f)) (s2 : Gm) (o2 e2 : Nat) (hs2 : Hid (stepG s1 f fd0 = (s2, o2, e2))) (ho2 : o2 = 1) (hsm : Hid (decide (s2 = { G2 with pc := 514 }) = true)) (hl1 : Hid (s2.st.length ≤ 4000000000)) (hl2 : Hid (({ G2 with pc := 514 } : Gm).st.length ≤ 4000000000)) :
    Calls Try.prog 3 #[.agg C, .agg D, .int .i64 a] w fun e w' => e = .returned (.bool true) ∧ Below w.heap.size w w' := by
  have gC : Hid (C.size = 23) := hg.out.size.1
  have gD : Hid (D.size = 18) := hf.out.size
  have nst : Hid (g.st.length ≤ 4000000000 ∧ g.pg.length ≤ 4000000000 ∧ g.me.length ≤ 4000000000) := by have := hs.out; unfold smaG at this; exact ⟨by omega, by omega, by omega⟩
  have hml := (may_iff.1 hm.out).2.1
  have hml' : Hid (g.me.length = 3232) := hml
  have l1 : (tt : Int) < 3743 := by omega
  have l1b : (516 : Int) ≤ (tt : Int) := by omega
  have l2 : (k : Int) < 3231 := by omega
  have l2' : Hid (k < 3231 ∧ 4 ≤ k) := ⟨by omega, by omega⟩
  have l3 : (k1 : Int) < 3232 := by omega
  have w1 : (516 : Int) + (P : Int) = (tt : Int) := by omega
  have w2 : (tt : Int) / 256 = (t1 : Int) := by omega
  have w2' : Int.tdiv (tt : Int) 256 = (t1 : Int) := by rw [Int.tdiv_eq_ediv_of_nonneg (by omega)]; exact w2
  have w3 : (tt : Int) % 256 = (t2 : Int) := by omega
  have w3' : Int.tmod (tt : Int) 256 = (t2 : Int) := by rw [Int.tmod_eq_emod_of_nonneg (by omega)]; exact w3
  have w4 : (tt : Int) - 512 = (k : Int) := by omega
  obtain ⟨tp, htp⟩ : ∃ x, tt + 1 = x := ⟨_, rfl⟩
  have w5 : (tt : Int) + 1 = (tp : Int) := by omega
  have w6 : (tp : Int) - 512 = (k1 : Int) := by omega
  have l5 : (tp : Int) < 3800 := by omega
  have l6 : (t1 : Int) < 15 := by omega
  have l7 : (t2 : Int) < 256 := by omega
  obtain ⟨B1, hB1⟩ : ∃ x, b1.toNat = x := ⟨_, rfl⟩
  obtain ⟨B2, hB2⟩ : ∃ x, b2.toNat = x := ⟨_, rfl⟩
  have w7 : (32 : Int) + (t1 : Int) = (B1 : Int) := by omega
  have w7' : IntKind.u8.wrap ((32 : Int) + (t1 : Int)) = (B1 : Int) := by rw [IntKind.wrap_u8]; omega
  have w8 : (t2 : Int) = (B2 : Int) := by omega
  have hBB : Hid (b1.toNat = B1 ∧ b2.toNat = B2 ∧ t2 = B2) := ⟨hB1, hB2, by omega⟩
  have l8 : (B1 : Int) < 256 := by omega
  have hbb : Hid (k + 1 = k1) := hk1
  clear hto hk hk1 ht1 ht2 hb1 hb2 hB1 hB2 htp h3 hml w8
  have q1 : ((e1 : Int) != 0) = false := by simp; omega
  have q2 : ((o1 : Int) != 1) = false := by simp; omega
  have q3 : ((n : Int) == 12) = false := by simp; omega
  have q4 : (n : Int) + 1 = (n1 : Int) := by omega
  have q5 : ((n1 : Int) != (n1 : Int)) = false := by simp
  have q6 : ((tt : Int) != (tt : Int)) = false := by simp
  have q7 : ((o2 : Int) == 1) = true := by simp; omega
  have i5 : (n : Int) ≤ 12 := by omega
  have i6 : (n1 : Int) ≤ 13 := by omega
  have i7 : (n : Int) < (n1 : Int) := by omega
  clear he ho hn hn12 ho2
  go_enter Try.func3, Try.ntmps3
  go_upto_region 9 with (first
    | ((with_reducible refine at_st rtG (w.heap.size) C C2 ?_ ?_ ?_ ?_ (.tmp 3) (.tmp 32) ?_ ?_ ?_ ?_ ?_); exact K4.out.1.bx 0 _ _ _ rfl; exact gC.out; exact (K4.out.2.1).lies.size.1; exact (K4.out.2.1).lies.size.2.1; rfl; rfl; rfl; rfl; intro y5 H5; have K5 : Hid (Fm w [(w.heap.size, C2, 27), (w.heap.size + 1, D, 30)] y5 ∧ GO w.heap.size y5 C2 g ∧ True) := ⟨K4.out.1.put 0 _ _ _ _ rfl H5.out, (K4.out.2.1).offT (K4.out.1.bx 0 _ _ _ rfl) (by decide) (by decide) H5.out.2.2, trivial⟩; clear H5)
    | (go_at_call 9; refine (copied_any y3 C g (hg.out.below K3.out.1.low) nst.out.1 nst.out.2.1 nst.out.2.2).mono ?_; rintro e y4 ⟨C2, rfl, H⟩; have K4 : Hid (Fm w [(w.heap.size, C, 27), (w.heap.size + 1, D, 30)] y4 ∧ GO w.heap.size y4 C2 g ∧ True) := ⟨K3.out.1.below H.out.2, H.out.1.weak K3.out.1.low.size, trivial⟩; clear H)
    | (go_at_call 8; refine (pick_any y3 a 3227 ha (by decide)).mono ?_; rintro e yp ⟨rfl, ep⟩; replace ep := ep.symm; subst ep; rw [hP.out])
    | (go_at_call 7; refine (rcheck_gl y2 C g (hg.out.below K2.out.1.low)).mono ?_; rintro e y3 ⟨rfl, H⟩; have K3 : Hid (Fm w [(w.heap.size, C, 27), (w.heap.size + 1, D, 30)] y3 ∧ True) := ⟨K2.out.1.below H, trivial⟩; rw [hm.out]; clear H)
    | (go_at_call 6; refine (vast_gl y1 C D g f (hg.out.below K1.out.1.low) (hf.out.below K1.out.1.low)).mono ?_; rintro e y2 ⟨rfl, H⟩; have K2 : Hid (Fm w [(w.heap.size, C, 27), (w.heap.size + 1, D, 30)] y2 ∧ True) := ⟨K1.out.1.below H, trivial⟩; rw [hv.out]; clear H)
    | (go_at_call 5; refine (awake_any y0).mono ?_; rintro e y1 ⟨rfl, H⟩; have K1 : Hid (Fm w [(w.heap.size, C, 27), (w.heap.size + 1, D, 30)] y1 ∧ True) := ⟨K0.out.1.below H, trivial⟩; clear H)
    | ((with_reducible refine gen_world ((w.alloc (.cells C 27)).alloc (.cells D 30)) (fun y => Fm w [(w.heap.size, C, 27), (w.heap.size + 1, D, 30)] y ∧ True) ?_ ?_); (exact ⟨Fm.two w _ _ _ _ , trivial⟩); intro y0 K0)
    | ((with_reducible refine at_load rtG (w.heap.size) C ?_ ?_ (.tmp 3) ?_ ?_ ?_ ?_); (first | exact K3.out.1.bx 0 _ _ _ rfl | exact K2.out.1.bx 0 _ _ _ rfl | exact K1.out.1.bx 0 _ _ _ rfl); (first | exact gC.out | exact (K3.out.2.1).lies.size.1 | exact (K2.out.2.1).lies.size.1 | exact (K1.out.2.1).lies.size.1); kernel_rfl; rfl; rfl)
    | ((with_reducible refine at_load rtFn (w.heap.size + 1) D ?_ ?_ (.tmp 4) ?_ ?_ ?_ ?_); (first | exact K1.out.1.bx 1 _ _ _ rfl); (first | exact gD.out); kernel_rfl; rfl; rfl))
  obtain ⟨gM, cM, hM⟩ := (K5.out.2.1).memC (by rw [hml'.out]; decide)
  rw [hml'.out] at hM
  have hM' : Hid (C2[22]? = some (.slice (some ⟨gM, 0, none⟩) 3232 cM)) := hM
  have c22 := (K5.out.1.bx 0 _ _ _ rfl).c 22 _ hM
  have c17 := (K5.out.1.bx 0 _ _ _ rfl).c 17 _ ((K5.out.2.1).cells).choose_spec.choose_spec.choose_spec.choose_spec.1
  have z17 := (K5.out.1.bx 0 _ _ _ rfl).fz 17
  obtain ⟨lM, ⟨csM, xM⟩, ⟨v0, d0⟩, f0, _⟩ := (K5.out.2.1).setMe hM 0 (by rw [hml'.out]; decide)
  obtain ⟨_, _, ⟨v1, d1⟩, f1, _⟩ := (K5.out.2.1).setMe hM 1 (by rw [hml'.out]; decide)
  obtain ⟨C3, hC3⟩ : ∃ x, Hid (x = C2.setIfInBounds 17 (.int .u16 512)) := ⟨_, (rfl : C2.setIfInBounds 17 (.int .u16 512) = _)⟩
  have hM3 : Hid (C3[22]? = some (.slice (some ⟨gM, 0, none⟩) 3232 cM)) := by rw [hC3.out]; show _ = _; rw [Array.getElem?_setIfInBounds_ne (by decide)]; exact hM
  have ix0 := fun v => idxB .i64 gM 0 3232 cM 0 v (by decide)
  have ix1 := fun v => idxB .i64 gM 0 3232 cM 1 v (by decide)
  rw [show ((0 : Nat) : Int) = 0 from rfl] at ix0
  rw [show ((1 : Nat) : Int) = 1 from rfl] at ix1
  simp only [Nat.zero_add] at ix0 ix1
  have A1 : Hid (Fm w [(w.heap.size, C3, 27), (w.heap.size + 1, D, 30)] (((y5.setCell ⟨w.heap.size, 17, none⟩ (.int .u16 512)).setCell ⟨gM, 0, none⟩ (.int .u8 (B1 : Int))).setCell ⟨gM, 1, none⟩ (.int .u8 (t2 : Int))) ∧ GO w.heap.size (((y5.setCell ⟨w.heap.size, 17, none⟩ (.int .u16 512)).setCell ⟨gM, 0, none⟩ (.int .u8 (B1 : Int))).setCell ⟨gM, 1, none⟩ (.int .u8 (t2 : Int))) C3 { g with pc := 512, me := (g.me.set 0 b1).set 1 b2 } ∧ True) := by
    rw [← hBB.out.1, show (t2 : Int) = (b2.toNat : Int) from by have := hBB.out; omega]
    have F1 := K5.out.1.setCell 0 _ _ _ _ rfl 17 (.int .u16 512) hC3.out.symm
    have J1 := ((K5.out.2.1).offT (K5.out.1.bx 0 _ _ _ rfl) (by decide) (by decide) (fun q hq => heap_setCell_other y5 ⟨w.heap.size, 17, none⟩ q (.int .u16 512) hq)).setPC 512 (by decide)
    rw [show C2.setIfInBounds 17 (.int .u16 ((512 : Nat) : Int)) = C3 from hC3.out.symm] at J1
    obtain ⟨lb, ⟨cs1, x1⟩, _, _, J2⟩ := J1.setMe hM3.out 0 (by show 0 < g.me.length; rw [hml'.out]; decide)
    have F2 := F1.offU x1 lb boxT2 0 (.int .u8 (b1.toNat : Int))
    obtain ⟨_, ⟨cs2, x2⟩, _, _, J3⟩ := (J2 b1).setMe hM3.out 1 (by show 1 < (g.me.set 0 b1).length; rw [List.length_set, hml'.out]; decide)
    exact ⟨F2.offU x2 lb boxT2 1 _, J3 b2, trivial⟩
  go_upto_region 12 with (fail)
  generalize ((y5.setCell ⟨w.heap.size, 17, none⟩ (.int .u16 512)).setCell ⟨gM, 0, none⟩ (.int .u8 (B1 : Int))).setCell ⟨gM, 1, none⟩ (.int .u8 (t2 : Int)) = ya at A1 ⊢
  clear c22 c17 z17 d0 f0 d1 f1 hM xM lM
  have c22a := (A1.out.1.bx 0 _ _ _ rfl).c 22 _ hM3.out
  have hla : Hid (((g.me.set 0 b1).set 1 b2).length = 3232) := by show _ = _; rw [List.length_set, List.length_set, hml'.out]
  obtain ⟨lMa, ⟨csa, xa⟩, ⟨va, da⟩, fa, Ja⟩ := A1.out.2.1.setMe hM3.out k (by show k < ((g.me.set 0 b1).set 1 b2).length; rw [hla.out]; have := l2'.out; omega)
  have ixk := fun v => idxB .i64 gM 0 3232 cM k v (by have := l2'.out; omega)
  simp only [Nat.zero_add] at ixk
  have A2 : Hid (Fm w [(w.heap.size, C3, 27), (w.heap.size + 1, D, 30)] (ya.setCell ⟨gM, k, none⟩ (.int .u8 0)) ∧ GO w.heap.size (ya.setCell ⟨gM, k, none⟩ (.int .u8 0)) C3 { g with pc := 512, me := ((g.me.set 0 b1).set 1 b2).set k 0 } ∧ True) := ⟨A1.out.1.offU xa lMa boxT2 k _, Ja 0, trivial⟩
  clear Ja xa lMa
  go_upto_region 13 with (fail)
  generalize ya.setCell ⟨gM, k, none⟩ (.int .u8 0) = yb at A2 ⊢
  clear c22a da fa
  have c22b := (A2.out.1.bx 0 _ _ _ rfl).c 22 _ hM3.out
  obtain ⟨lMb, ⟨csb, xb⟩, ⟨vb, db⟩, fb, Jb⟩ := A2.out.2.1.setMe hM3.out k1 (by show k1 < (((g.me.set 0 b1).set 1 b2).set k 0).length; rw [List.length_set, hla.out]; have := l2'.out; have := hbb.out; omega)
  have ixk1 := fun v => idxB .i64 gM 0 3232 cM k1 v (by have := l2'.out; have := hbb.out; omega)
  simp only [Nat.zero_add] at ixk1
  have A3 : Hid (Fm w [(w.heap.size, C3, 27), (w.heap.size + 1, D, 30)] (yb.setCell ⟨gM, k1, none⟩ (.int .u8 238)) ∧ GO w.heap.size (yb.setCell ⟨gM, k1, none⟩ (.int .u8 238)) C3 G2 ∧ True) := by
    rw [hG2.out]
    exact ⟨A2.out.1.offU xb lMb boxT2 k1 _, Jb 238, trivial⟩
  clear Jb xb lMb
  go_upto_region 14 with (fail)
  generalize yb.setCell ⟨gM, k1, none⟩ (.int .u8 238) = y20 at A3 ⊢
  have K20 : Hid (Fm w [(w.heap.size, C3, 27), (w.heap.size + 1, D, 30)] y20 ∧ GO w.heap.size y20 C3 G2 ∧ True) := A3
  clear c22b db fb A3 A1 A2
  go_wp2_with (first
    | (go_at_call 11; refine (rsame_any y29 C5 C6 s2 { G2 with pc := 514 } (K29.out.2.2.2.1).lies (K29.out.2.1).lies hl1.out hl2.out).mono ?_; rintro e y30 ⟨rfl, H⟩; have K30 : Hid (Fm w [(w.heap.size, C6, 27), (w.heap.size + 1, D, 30), (y20.heap.size, #[.int .u8 0, .int .u16 0, .int .i64 (-1)], 38), (y23.heap.size, C4, 27), (y26.heap.size, C5, 27)] y30 ∧ GO w.heap.size y30 C6 { G2 with pc := 514 } ∧ GO w.heap.size y30 C4 s1 ∧ GO w.heap.size y30 C5 s2 ∧ True) := ⟨K29.out.1.below H, (K29.out.2.1).below H, (K29.out.2.2.1).below H, (K29.out.2.2.2.1).below H, trivial⟩; rw [hsm.out]; clear H)
    | ((with_reducible refine gen_world (y28.setCell ⟨w.heap.size, 17, none⟩ (.int .u16 514)) (fun y => Fm w [(w.heap.size, C6, 27), (w.heap.size + 1, D, 30), (y20.heap.size, #[.int .u8 0, .int .u16 0, .int .i64 (-1)], 38), (y23.heap.size, C4, 27), (y26.heap.size, C5, 27)] y ∧ GO w.heap.size y C6 { G2 with pc := 514 } ∧ GO w.heap.size y C4 s1 ∧ GO w.heap.size y C5 s2 ∧ True) ?_ ?_); (exact ⟨K28.out.1.setCell 0 _ _ _ _ rfl 17 _ hC6.out.symm, (by have h := ((K28.out.2.1).offT (K28.out.1.bx 0 _ _ _ rfl) (by decide) (by decide) (fun q hq => heap_setCell_other y28 ⟨w.heap.size, 17, none⟩ q (.int .u16 514) hq)).setPC 514 (by decide); rw [show C3.setIfInBounds 17 (.int .u16 ((514 : Nat) : Int)) = C6 from hC6.out.symm] at h; exact h), (K28.out.2.2.1).offT (K28.out.1.bx 0 _ _ _ rfl) (by decide) (by decide) (fun q hq => heap_setCell_other y28 ⟨w.heap.size, 17, none⟩ q (.int .u16 514) hq), (K28.out.2.2.2.1).offT (K28.out.1.bx 0 _ _ _ rfl) (by decide) (by decide) (fun q hq => heap_setCell_other y28 ⟨w.heap.size, 17, none⟩ q (.int .u16 514) hq), trivial⟩); intro y29 K29)
    | ((with_reducible refine at_st rtG y26.heap.size #[.int .u8 0, .int .u8 0, .int .u8 0, .int .u8 0, .int .u8 0, .int .u8 0, .int .u8 0, .int .u8 0, .int .u8 0, .int .u8 0, .int .u8 0, .int .u8 0, .int .u8 0, .int .u8 0, .int .u8 0, .int .u8 0, .int .u16 0, .int .u16 0, .slice none 0 0, .int .u8 0, .int .u8 0, .slice none 0 0, .slice none 0 0] C5 ?_ ?_ ?_ ?_ (.tmp 15) (.tmp 123) ?_ ?_ ?_ ?_ ?_); exact K27.out.1.bx 4 _ _ _ rfl; rfl; exact (K27.out.2.2.2.1).lies.size.1; exact (K27.out.2.2.2.1).lies.size.2.1; rfl; rfl; rfl; rfl; intro y28 H28; have K28 : Hid (Fm w [(w.heap.size, C3, 27), (w.heap.size + 1, D, 30), (y20.heap.size, #[.int .u8 0, .int .u16 0, .int .i64 (-1)], 38), (y23.heap.size, C4, 27), (y26.heap.size, C5, 27)] y28 ∧ GO w.heap.size y28 C3 G2 ∧ GO w.heap.size y28 C4 s1 ∧ GO w.heap.size y28 C5 s2 ∧ True) := ⟨K27.out.1.put 4 _ _ _ _ rfl H28.out, (K27.out.2.1).offT (K27.out.1.bx 4 _ _ _ rfl) (by decide) (by decide) H28.out.2.2, (K27.out.2.2.1).offT (K27.out.1.bx 4 _ _ _ rfl) (by decide) (by decide) H28.out.2.2, (K27.out.2.2.2.1).offT (K27.out.1.bx 4 _ _ _ rfl) (by decide) (by decide) H28.out.2.2, trivial⟩; clear H28 K27; have cpg := (K28.out.1.bx 0 _ _ _ rfl).c 17 _ (K28.out.2.1.cells.choose_spec.choose_spec.choose_spec.choose_spec.1); have zpg := (K28.out.1.bx 0 _ _ _ rfl).fz 17; obtain ⟨C6, hC6⟩ : ∃ x, Hid (x = C3.setIfInBounds 17 (.int .u16 514)) := ⟨_, (rfl : C3.setIfInBounds 17 (.int .u16 514) = _)⟩)
    | ((with_reducible refine gen_world (y26.alloc (.cells #[.int .u8 0, .int .u8 0, .int .u8 0, .int .u8 0, .int .u8 0, .int .u8 0, .int .u8 0, .int .u8 0, .int .u8 0, .int .u8 0, .int .u8 0, .int .u8 0, .int .u8 0, .int .u8 0, .int .u8 0, .int .u8 0, .int .u16 0, .int .u16 0, .slice none 0 0, .int .u8 0, .int .u8 0, .slice none 0 0, .slice none 0 0] 27)) (fun y => Fm w [(w.heap.size, C3, 27), (w.heap.size + 1, D, 30), (y20.heap.size, #[.int .u8 0, .int .u16 0, .int .i64 (-1)], 38), (y23.heap.size, C4, 27), (y26.heap.size, #[.int .u8 0, .int .u8 0, .int .u8 0, .int .u8 0, .int .u8 0, .int .u8 0, .int .u8 0, .int .u8 0, .int .u8 0, .int .u8 0, .int .u8 0, .int .u8 0, .int .u8 0, .int .u8 0, .int .u8 0, .int .u8 0, .int .u16 0, .int .u16 0, .slice none 0 0, .int .u8 0, .int .u8 0, .slice none 0 0, .slice none 0 0], 27)] y ∧ GO w.heap.size y C3 G2 ∧ GO w.heap.size y C4 s1 ∧ GO w.heap.size y C5 s2 ∧ True) ?_ ?_); (exact ⟨K26.out.1.new _ _, (K26.out.2.1).below (below1 y26 _), (K26.out.2.2.1).below (below1 y26 _), (K26.out.2.2.2.1).below (below1 y26 _), trivial⟩); intro y27 K27)
    | (go_at_call 10; refine (step_aw2 y25 C4 D s1 f (K25.out.2.2.1).lies (hf.out.below K25.out.1.low) hsS.out s2 o2 e2 hs2.out).mono ?_; rintro e y26 ⟨C5, rfl, J, H⟩; have K26 : Hid (Fm w [(w.heap.size, C3, 27), (w.heap.size + 1, D, 30), (y20.heap.size, #[.int .u8 0, .int .u16 0, .int .i64 (-1)], 38), (y23.heap.size, C4, 27)] y26 ∧ GO w.heap.size y26 C3 G2 ∧ GO w.heap.size y26 C4 s1 ∧ GO w.heap.size y26 C5 s2 ∧ True) := ⟨K25.out.1.below H, (K25.out.2.1).below H, (K25.out.2.2.1).below H, J.weak K25.out.1.low.size, trivial⟩; clear H J)
    | ((with_reducible refine at_st rtG y23.heap.size #[.int .u8 0, .int .u8 0, .int .u8 0, .int .u8 0, .int .u8 0, .int .u8 0, .int .u8 0, .int .u8 0, .int .u8 0, .int .u8 0, .int .u8 0, .int .u8 0, .int .u8 0, .int .u8 0, .int .u8 0, .int .u8 0, .int .u16 0, .int .u16 0, .slice none 0 0, .int .u8 0, .int .u8 0, .slice none 0 0, .slice none 0 0] C4 ?_ ?_ ?_ ?_ (.tmp 11) (.tmp 64) ?_ ?_ ?_ ?_ ?_); exact K24.out.1.bx 3 _ _ _ rfl; rfl; exact (K24.out.2.2.1).lies.size.1; exact (K24.out.2.2.1).lies.size.2.1; rfl; rfl; rfl; rfl; intro y25 H25; have K25 : Hid (Fm w [(w.heap.size, C3, 27), (w.heap.size + 1, D, 30), (y20.heap.size, #[.int .u8 0, .int .u16 0, .int .i64 (-1)], 38), (y23.heap.size, C4, 27)] y25 ∧ GO w.heap.size y25 C3 G2 ∧ GO w.heap.size y25 C4 s1 ∧ True) := ⟨K24.out.1.put 3 _ _ _ _ rfl H25.out, (K24.out.2.1).offT (K24.out.1.bx 3 _ _ _ rfl) (by decide) (by decide) H25.out.2.2, (K24.out.2.2.1).offT (K24.out.1.bx 3 _ _ _ rfl) (by decide) (by decide) H25.out.2.2, trivial⟩; clear H25 K24; clear cs; have cs := (K25.out.1.bx 0 _ _ _ rfl).c 18 _ eA; have cp := (K25.out.1.bx 3 _ _ _ rfl).c 17 _ (K25.out.2.2.1.cells.choose_spec.choose_spec.choose_spec.choose_spec.1); rw [hpc1.out] at cp; obtain ⟨gS, cS2, eS, hS⟩ := (K25.out.2.2.1).stAt n (by rw [hst1.out]; omega); have ct2 := (K25.out.1.bx 3 _ _ _ rfl).c 18 _ eS; rw [hst1.out] at ct2; rw [hv514.out, show ((514 : Nat) : Int) = 514 from rfl] at hS; have ixS := fun v => idxW .i64 gS 0 n1 cS2 n v (by omega); simp only [Nat.zero_add] at ixS hS; clear eS)
    | ((with_reducible refine gen_world (y23.alloc (.cells #[.int .u8 0, .int .u8 0, .int .u8 0, .int .u8 0, .int .u8 0, .int .u8 0, .int .u8 0, .int .u8 0, .int .u8 0, .int .u8 0, .int .u8 0, .int .u8 0, .int .u8 0, .int .u8 0, .int .u8 0, .int .u8 0, .int .u16 0, .int .u16 0, .slice none 0 0, .int .u8 0, .int .u8 0, .slice none 0 0, .slice none 0 0] 27)) (fun y => Fm w [(w.heap.size, C3, 27), (w.heap.size + 1, D, 30), (y20.heap.size, #[.int .u8 0, .int .u16 0, .int .i64 (-1)], 38), (y23.heap.size, #[.int .u8 0, .int .u8 0, .int .u8 0, .int .u8 0, .int .u8 0, .int .u8 0, .int .u8 0, .int .u8 0, .int .u8 0, .int .u8 0, .int .u8 0, .int .u8 0, .int .u8 0, .int .u8 0, .int .u8 0, .int .u8 0, .int .u16 0, .int .u16 0, .slice none 0 0, .int .u8 0, .int .u8 0, .slice none 0 0, .slice none 0 0], 27)] y ∧ GO w.heap.size y C3 G2 ∧ GO w.heap.size y C4 s1 ∧ True) ?_ ?_); (exact ⟨K23.out.1.new _ _, (K23.out.2.1).below (below1 y23 _), (K23.out.2.2.1).below (below1 y23 _), trivial⟩); intro y24 K24)
    | (go_at_call 10; refine (step_aw2 y22 C3 D G2 f (K22.out.2.1).lies (hf.out.below K22.out.1.low) hsG.out s1 o1 e1 hs1.out).mono ?_; rintro e y23 ⟨C4, rfl, J, H⟩; have K23 : Hid (Fm w [(w.heap.size, C3, 27), (w.heap.size + 1, D, 30), (y20.heap.size, #[.int .u8 0, .int .u16 0, .int .i64 (-1)], 38)] y23 ∧ GO w.heap.size y23 C3 G2 ∧ GO w.heap.size y23 C4 s1 ∧ True) := ⟨K22.out.1.below H, (K22.out.2.1).below H, J.weak K22.out.1.low.size, trivial⟩; clear H J; obtain ⟨sA, cA, eA⟩ := (K23.out.2.1).stC; rw [hst.out] at eA; have cs := (K23.out.1.bx 0 _ _ _ rfl).c 18 _ eA)
    | ((with_reducible refine at_st rtFd y20.heap.size #[.int .u8 0, .int .u16 0, .int .i64 0] #[.int .u8 0, .int .u16 0, .int .i64 (-1)] ?_ ?_ ?_ ?_ (.tmp 10) (.tmp 58) ?_ ?_ ?_ ?_ ?_); exact K21.out.1.bx 2 _ _ _ rfl; rfl; rfl; exact dCs_one fd0; rfl; rfl; rfl; rfl; intro y22 H22; have K22 : Hid (Fm w [(w.heap.size, C3, 27), (w.heap.size + 1, D, 30), (y20.heap.size, #[.int .u8 0, .int .u16 0, .int .i64 (-1)], 38)] y22 ∧ GO w.heap.size y22 C3 G2 ∧ True) := ⟨K21.out.1.put 2 _ _ _ _ rfl H22.out, (K21.out.2.1).offT (K21.out.1.bx 2 _ _ _ rfl) (by decide) (by decide) H22.out.2.2, trivial⟩; clear H22 K21)
    | ((with_reducible refine gen_world (y20.alloc (.cells #[.int .u8 0, .int .u16 0, .int .i64 0] 38)) (fun y => Fm w [(w.heap.size, C3, 27), (w.heap.size + 1, D, 30), (y20.heap.size, #[.int .u8 0, .int .u16 0, .int .i64 0], 38)] y ∧ GO w.heap.size y C3 G2 ∧ True) ?_ ?_); (exact ⟨K20.out.1.new _ _, (K20.out.2.1).below (below1 y20 _), trivial⟩); intro y21 K21)
    | ((with_reducible refine at_bu #[(2, .const (.int .i64 (-1)))] [(2, .int .i64 (-1))] #[.int .u8 0, .int .u16 0, .int .i64 (-1)] ?_ ?_ ?_ builtD0 ?_); kernel_rfl; rfl; kernel_rfl)
    | ((with_reducible refine at_load rtG (w.heap.size) C3 ?_ ?_ (.tmp 3) ?_ ?_ ?_ ?_); (first | exact K22.out.1.bx 0 _ _ _ rfl); (first | exact (K22.out.2.1).lies.size.1); kernel_rfl; rfl; rfl)
    | ((with_reducible refine at_load rtFn (w.heap.size + 1) D ?_ ?_ (.tmp 4) ?_ ?_ ?_ ?_); (first | exact K25.out.1.bx 1 _ _ _ rfl | exact K22.out.1.bx 1 _ _ _ rfl); (first | exact gD.out); kernel_rfl; rfl; rfl)
    | ((with_reducible refine at_load rtFd (y20.heap.size) #[.int .u8 0, .int .u16 0, .int .i64 (-1)] ?_ ?_ (.tmp 10) ?_ ?_ ?_ ?_); (first | exact K25.out.1.bx 2 _ _ _ rfl | exact K22.out.1.bx 2 _ _ _ rfl); (first | rfl); kernel_rfl; rfl; rfl)
    | ((with_reducible refine at_load rtG (y23.heap.size) C4 ?_ ?_ (.tmp 11) ?_ ?_ ?_ ?_); (first | exact K25.out.1.bx 3 _ _ _ rfl); (first | exact (K25.out.2.2.1).lies.size.1); kernel_rfl; rfl; rfl)
    | ((with_reducible refine at_load rtG (y26.heap.size) C5 ?_ ?_ (.tmp 15) ?_ ?_ ?_ ?_); (first | exact K29.out.1.bx 4 _ _ _ rfl); (first | exact (K29.out.2.2.2.1).lies.size.1); kernel_rfl; rfl; rfl)
    | ((with_reducible refine at_load rtG (w.heap.size) C6 ?_ ?_ (.tmp 3) ?_ ?_ ?_ ?_); (first | exact K29.out.1.bx 0 _ _ _ rfl); (first | exact (K29.out.2.1).lies.size.1); kernel_rfl; rfl; rfl))
  go_ret
  exact ⟨rfl, K30.out.1.low⟩

theorem calls_walk (w : World) (C D : Array Value) (g : Gm) (f : Fo) (a : Int) (hg : GL w C g) (hf : FL w D f) (ha : -9223372036854775808 ≤ a ∧ a ≤ 9223372036854775807) :
    Calls Try.prog 3 #[.agg C, .agg D, .int .i64 a] w fun e w' => e = .returned (.bool true) ∧ Below w.heap.size w w' := by
  rcases hv : vasG g.st.length g.pg.length g.me.length f.by_.length with _ | _
  · have hs : smaG g f := by
      unfold vasG at hv
      unfold smaG
      simpa using hv
    rcases hm : g.may with _ | _
    · exact calls_bad w C D g f a hg hf ha hv hm
    · obtain ⟨P, hP1, hP⟩ := pick_nat a 3227 (by decide)
      have hl := may_iff.1 hm
      obtain ⟨G2, hG2⟩ : ∃ G2 : Gm, G2 = { g with pc := 512, me := (((g.me.set 0 (UInt8.ofNat (32 + (516 + P) / 256))).set 1 (UInt8.ofNat ((516 + P) % 256))).set (516 + P - 512) 0).set (516 + P - 512 + 1) 238 } := ⟨_, rfl⟩
      have hmG : G2.may = true := by rw [hG2]; exact may_iff.2 ⟨hl.1, by simp [hl.2.1], hl.2.2⟩
      have hlG := may_iff.1 hmG
      have hsG : smaG G2 f := by
        unfold smaG at hs ⊢
        have e1 : G2.st = g.st := by rw [hG2]
        have e2 : G2.pg = g.pg := by rw [hG2]
        rw [e1, e2, hlG.2.1]
        omega
      have p1 : (UInt8.ofNat (32 + (516 + P) / 256)).toNat = 32 + (516 + P) / 256 := ofB (by omega)
      have p2 : (UInt8.ofNat ((516 + P) % 256)).toNat = (516 + P) % 256 := ofB (by omega)
      rcases hfo : fontG f with _ | _
      · have e := step_arg (d := fd0) hmG (by rw [hfo]; rfl)
        exact calls_arg w C D g f a hg hf ha hv hm hs P (516 + P) _ _ hP rfl rfl rfl _ _ rfl rfl _ _ p1 p2 hP1 G2 hG2 hsG gz 0 1 e rfl
      · have me : G2.me = (((g.me.set 0 (UInt8.ofNat (32 + (516 + P) / 256))).set 1 (UInt8.ofNat ((516 + P) % 256))).set (516 + P - 512) 0).set (516 + P - 512 + 1) 238 := by rw [hG2]
        have m0 : G2.me.getD 0 0 = UInt8.ofNat (32 + (516 + P) / 256) := by
          rw [me, set_at, if_neg (by omega), set_at, if_neg (by omega), set_at, if_neg (by omega), set_at, if_pos ⟨rfl, by omega⟩]
        have m1 : G2.me.getD 1 0 = UInt8.ofNat ((516 + P) % 256) := by
          rw [me, set_at, if_neg (by omega), set_at, if_neg (by omega), set_at, if_pos ⟨rfl, by rw [List.length_set]; omega⟩]
        have m2 : G2.me.getD (516 + P - 512) 0 = 0 := by
          rw [me, set_at, if_neg (by omega), set_at, if_pos ⟨rfl, by rw [List.length_set, List.length_set]; omega⟩]
        have m3 : G2.me.getD (516 + P + 1 - 512) 0 = 238 := by
          rw [me, set_at, if_pos ⟨by omega, by rw [List.length_set, List.length_set, List.length_set]; omega⟩]
        obtain ⟨c1, c2⟩ := step_calls (g := G2) (f := f) (d := fd0) («to» := 516 + P) (by omega) (by omega) hmG (by rw [hG2]) hfo (by decide) m0 m1 m2 m3
        by_cases h12 : G2.st.length = 12
        · exact calls_deep w C D g f a hg hf ha hv hm hs P (516 + P) _ _ hP rfl rfl rfl _ _ rfl rfl _ _ p1 p2 hP1 G2 hG2 hsG G2 5 0 (c1 h12) rfl rfl _ rfl h12 (by show decide (G2 = G2) = true; simp) (by show _ ≤ _; omega) (by show _ ≤ _; omega)
        · obtain ⟨s1, s2⟩ := c2 h12
          have l12 := hlG.2.2
          refine calls_back w C D g f a hg hf ha hv hm hs P (516 + P) _ _ hP rfl rfl rfl _ _ rfl rfl _ _ p1 p2 hP1 G2 hG2 hsG _ 1 0 s1 rfl rfl _ _ rfl h12 l12 rfl (by show (G2.st ++ [514]).length = _; simp) rfl ?_ ?_ _ 1 0 s2 rfl (by show decide (_ = _) = true; simp) (by show G2.st.length ≤ _; omega) (by show G2.st.length ≤ _; omega)
          · show (G2.st ++ [514]).getD G2.st.length 0 = 514
            simp [List.getD]
          · show (G2.st ++ [514]).length + G2.pg.length + G2.me.length + f.by_.length ≤ 2147483647
            unfold fontG at hfo
            simp only [decide_eq_true_eq] at hfo
            rw [List.length_append, List.length_singleton, hlG.1, hlG.2.1]
            omega
  · exact calls_vast w C D g f a hg hf ha hv
end Go.Proofs.Ytilflcffcocncab
