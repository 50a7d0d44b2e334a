/- GameHangs: another random byte, other keys, another key, another font. -/
import Derived.Test.YtilflcffcocncaaH0
import Derived.Test.YtilflcffcocncaaGop
namespace Go.Proofs.Ytilflcffcocncaa
open Go Go.RowKit Go.Shelf
set_option linter.unusedVariables false
set_option maxHeartbeats 1000000
set_option maxRecDepth 20000

/-- Two feeds and a font, in a row. -/
def oCs (d0 d1 : Fd) (D : Array Value) : Array Value := ((dCs d0).toList ++ ((dCs d1).toList ++ D.toList)).toArray
theorem oCs_at0 {y : World} {b : Nat} {d0 d1 : Fd} {D : Array Value} {t : TypeId} (h : Bx y b (oCs d0 d1 D) t) : y.rangeAt b 0 (dCs d0).toList := fun j v hv => by
  refine h.c (0 + j) v ?_
  unfold oCs
  have hj := (List.getElem?_eq_some_iff.1 hv).1
  rw [Nat.zero_add, List.getElem?_toArray, List.getElem?_append_left hj]
  exact hv
theorem oCs_at3 {y : World} {b : Nat} {d0 d1 : Fd} {D : Array Value} {t : TypeId} (h : Bx y b (oCs d0 d1 D) t) : y.rangeAt b 3 (dCs d1).toList := fun j v hv => by
  refine h.c (3 + j) v ?_
  unfold oCs
  have hj := (List.getElem?_eq_some_iff.1 hv).1
  have e : (dCs d0).toList.length = 3 := rfl
  rw [List.getElem?_toArray, List.getElem?_append_right (by omega), e, Nat.add_sub_cancel_left, List.getElem?_append_left hj]
  exact hv
theorem oCs_at6 {y w : World} {b : Nat} {d0 d1 : Fd} {D : Array Value} {f : Fo} {t : TypeId} (hf : FL w D f) (h : Bx y b (oCs d0 d1 D) t) : y.rangeAt b 6 D.toList := fun j v hv => by
  refine h.c (6 + j) v ?_
  unfold oCs
  have e : (dCs d0).toList.length = 3 := rfl
  have e2 : (dCs d1).toList.length = 3 := rfl
  rw [List.getElem?_toArray, List.getElem?_append_right (by omega), e, List.getElem?_append_right (by omega), e2, show 6 + j - 3 - 3 = j by omega]
  exact hv
theorem openOt {H : Type} {enc : TypeId × Value → H} {w : World} {m : Nat} {cs : List Value} {x : DataW H × List MemPlace} (h : DataW.trod enc Try.prog w 0 (fun _ => true) true m 55 cs = some x) : ∃ (d0 d1 : Fd) (D : Array Value) (f : Fo), cs = (oCs d0 d1 D).toList ∧ d0.Ok ∧ d1.Ok ∧ FL w D f := by
  obtain ⟨xs, n, _, rfl, hl, hxl, hf⟩ := DataW.trod_struct Try.underlying55 h
  have k3 : Try.prog.cellsOf 50 = 3 := by kernel_rfl
  have k18 : Try.prog.cellsOf 40 = 18 := by kernel_rfl
  have hl24 : cs.length = 24 := hl.trans (by kernel_rfl)
  have g0 := hf 0 _ rfl
  have g1 := hf 1 _ rfl
  have g2 := hf 2 _ rfl
  simp [k3] at g0 g1
  simp [k18] at g2
  obtain ⟨y0, e0⟩ := some_of (show xs.length = 3 from hxl) (show 0 < 3 by decide)
  obtain ⟨y1, e1⟩ := some_of (show xs.length = 3 from hxl) (show 1 < 3 by decide)
  obtain ⟨y2, e2⟩ := some_of (show xs.length = 3 from hxl) (show 2 < 3 by decide)
  obtain ⟨d0, q0, h0⟩ := openFd (g0.trans e0)
  obtain ⟨d1, q1, h1⟩ := openFd (g1.trans e1)
  obtain ⟨D, f, q2, h2, _⟩ := openFo (g2.trans e2)
  refine ⟨d0, d1, D, f, ?_, h0, h1, h2⟩
  unfold oCs
  show cs = (dCs d0).toList ++ ((dCs d1).toList ++ D.toList)
  rw [← q0, ← q1, ← q2]
  have t1 : List.drop 0 cs = cs := rfl
  apply List.ext_getElem?
  intro j
  simp only [List.getElem?_append, List.getElem?_take, List.getElem?_drop, List.length_take, List.length_drop, hl24]
  split
  · first | (rw [if_pos (by omega)]) | skip
    try first | rfl | (congr 1; omega)
  · split
    · rw [if_pos (by omega)]
      first | rfl | (congr 1; omega)
    · by_cases hj : j < 24
      · rw [if_pos (by omega)]
        first | rfl | (congr 1; omega)
      · rw [if_neg (by omega), List.getElem?_eq_none (by omega)]

theorem step_fontB (w : World) (C D : Array Value) (g : Gm) (f : Fo) (d : Fd) (hg : Hid (GL w C g)) (hf : Hid (FL w D f)) (hd : Hid d.Ok) (hby : Hid (f.by_.length ≤ 4000000000)) (nst : Hid (g.st.length ≤ 4000000000 ∧ g.pg.length ≤ 4000000000 ∧ g.me.length ≤ 4000000000)) (hm : Hid (g.may = true)) (hfo : Hid (fontG f = false)) :
    Calls Try.prog 22 #[.agg C, .agg D, .agg (dCs d)] w fun e w' => ∃ C', e = .returned (.tuple #[.agg C', .int .u8 0, .int .i64 1]) ∧ GO w.heap.size w' C' gz ∧ Below w.heap.size w w' := by
  have gC : Hid (C.size = 23) := hg.out.size.1
  have gD : Hid (D.size = 18) := hf.out.size
  obtain ⟨Z, hZ⟩ : ∃ x : Array Value, Hid (x = gZ) := ⟨_, (rfl : gZ = gZ)⟩
  have hZ' : Hid (Z.size = 23) := by show _ = _; rw [hZ.out]; rfl
  obtain ⟨kk, hkk⟩ : ∃ k, d.ky = k := ⟨_, rfl⟩
  have hky : Hid (d.ky = kk) := hkk
  clear hkk
  go_enter Try.func22, Try.ntmps22
  go_wp2_with (first
    | ((with_reducible refine gen_world ((((w.alloc (.cells C 29)).alloc (.cells D 40)).alloc (.cells (dCs d) 50)).alloc (.cells #[.int .u8 0, .int .u8 0, .int .u8 0, .int .u8 0, .int .u8 0, .int .u8 0, .int .u8 0, .int .u8 0, .int .u8 0, .int .u8 0, .int .u8 0, .int .u8 0, .int .u8 0, .int .u8 0, .int .u8 0, .int .u8 0, .int .u16 0, .int .u16 0, .slice none 0 0, .int .u8 0, .int .u8 0, .slice none 0 0, .slice none 0 0] 29)) (fun y => Fm w [(w.heap.size, C, 29), (w.heap.size + 1, D, 40), (w.heap.size + 2, (dCs d), 50), (w.heap.size + 3, Z, 29)] y ∧ y.heap.size = w.heap.size + 4) ?_ ?_); (rw [hZ.out]; unfold gZ; exact ⟨Fm.four w _ _ _ _ _ _ _ _, by simp [World.size_alloc]⟩); intro y0 K0)
    | ((with_reducible refine at_load rtG w.heap.size C ?_ ?_ (.tmp 3) ?_ ?_ ?_ ?_); (first | exact K2.out.1.bx 0 _ _ _ rfl | exact K0.out.1.bx 0 _ _ _ rfl); exact gC.out; kernel_rfl; rfl; rfl)
    | (go_at_call 17; refine (check_gl y0 C g (hg.out.below K0.out.1.low)).mono ?_; rintro e y1 ⟨rfl, H1⟩; have K1 : Hid (Fm w [(w.heap.size, C, 29), (w.heap.size + 1, D, 40), (w.heap.size + 2, (dCs d), 50), (w.heap.size + 3, Z, 29)] y1 ∧ w.heap.size + 4 ≤ y1.heap.size) := ⟨K0.out.1.below H1, (by have := H1.size; rw [K0.out.2] at this; exact this)⟩; rw [hm.out]; have ky := (K1.out.1.bx 2 _ _ _ rfl).c 2 (.int .i64 d.ky) rfl; rw [hky.out] at ky)
    | ((with_reducible refine at_load rtFn (w.heap.size + 1) D ?_ ?_ (.tmp 4) ?_ ?_ ?_ ?_); exact K1.out.1.bx 1 _ _ _ rfl; exact gD.out; kernel_rfl; rfl; rfl)
    | (go_at_call 32; refine (fits_any y1 D f (hf.out.below K1.out.1.low) hby.out).mono ?_; rintro e y2 ⟨rfl, H2⟩; have K2 : Hid (Fm w [(w.heap.size, C, 29), (w.heap.size + 1, D, 40), (w.heap.size + 2, (dCs d), 50), (w.heap.size + 3, Z, 29)] y2 ∧ w.heap.size + 4 ≤ y2.heap.size) := ⟨K1.out.1.below H2, Nat.le_trans K1.out.2 H2.size⟩; rw [hfo.out]; have ky2 := (K2.out.1.bx 2 _ _ _ rfl).c 2 (.int .i64 d.ky) rfl; rw [hky.out] at ky2)
    | ((with_reducible refine at_bu #[] [] gZ ?_ ?_ ?_ builtG0 ?_); kernel_rfl; rfl; rfl)
    | ((with_reducible refine at_st rtG (w.heap.size + 3) Z gZ ?_ ?_ ?_ ?_ (.tmp 6) (.tmp 27) ?_ ?_ ?_ ?_ ?_); exact K2.out.1.bx 3 _ _ _ rfl; exact hZ'.out; rfl; kernel_rfl; rfl; rfl; rfl; rfl; intro yE HE; have KE : Hid (Fm w [(w.heap.size, C, 29), (w.heap.size + 1, D, 40), (w.heap.size + 2, (dCs d), 50), (w.heap.size + 3, gZ, 29)] yE) := K2.out.1.put 3 _ _ _ _ rfl HE.out))
  exact ret_three rtG rfl rfl rfl rfl (KE.out.bx 3 _ _ _ rfl) rfl rfl ⟨gZ, rfl, GO.zero _ _, KE.out.low⟩


theorem hangs_vast (w : World) (C D : Array Value) (g : Gm) (f : Fo) (D2 : Array Value) (f2 : Fo) (d0 d1 : Fd) (hg : Hid (GL w C g)) (hf : Hid (FL w D f)) (hf2 : Hid (FL w D2 f2)) (hd0 : Hid d0.Ok) (hd1 : Hid d1.Ok) (hv : Hid (vasG g.st.length g.pg.length g.me.length f.by_.length = true)) :
    Calls Try.prog 6 #[.agg C, .agg D, .agg (oCs d0 d1 D2)] w fun e w' => e = .returned (.bool true) ∧ Below w.heap.size w w' := by
  have gC : Hid (C.size = 23) := hg.out.size.1
  have gD : Hid (D.size = 18) := hf.out.size
  have gD2 : Hid (D2.size = 18) := hf2.out.size
  obtain ⟨sB2, cB2, n2, eO⟩ : ∃ sB cB n, n = f2.by_.length ∧ (oCs d0 d1 D2)[23]? = some (.slice sB n cB) := by
    obtain ⟨⟨sB, cB', e, _⟩, _⟩ := hf2.out
    exact ⟨sB, cB', _, rfl, by rw [e]; rfl⟩
  have fO : Hid ((oCs d0 d1 D2)[23]? = some (.slice sB2 n2 cB2)) := eO.2
  have hn2 : Hid (n2 = f2.by_.length) := eO.1
  have oC0 : Hid (∀ y, Bx y (w.heap.size + 2) (oCs d0 d1 D2) 55 → y.rangeAt (w.heap.size + 2) 0 (dCs d0).toList) := fun y h => oCs_at0 h
  have oC3 : Hid (∀ y, Bx y (w.heap.size + 2) (oCs d0 d1 D2) 55 → y.rangeAt (w.heap.size + 2) 3 (dCs d1).toList) := fun y h => oCs_at3 h
  have oC6 : Hid (∀ y, Bx y (w.heap.size + 2) (oCs d0 d1 D2) 55 → y.rangeAt (w.heap.size + 2) 6 D2.toList) := fun y h => oCs_at6 hf2.out h
  clear eO
  go_enter Try.func6, Try.ntmps6
  go_wp2_with (first
    | (go_at_call 15; refine (vast_gl y1 C D g f (hg.out.below K1.out.1.low) (hf.out.below K1.out.1.low)).mono ?_; rintro e y2 ⟨rfl, H⟩; have K2 : Hid (Fm w [(w.heap.size, C, 29), (w.heap.size + 1, D, 40), (w.heap.size + 2, (oCs d0 d1 D2), 55)] y2 ∧ True) := ⟨K1.out.1.below H, trivial⟩; rw [hv.out]; clear H; have c23b := (K2.out.1.bx 2 _ _ _ rfl).c 23 _ fO.out)
    | (go_at_call 8; refine (awake_any y0).mono ?_; rintro e y1 ⟨rfl, H⟩; have K1 : Hid (Fm w [(w.heap.size, C, 29), (w.heap.size + 1, D, 40), (w.heap.size + 2, (oCs d0 d1 D2), 55)] y1 ∧ True) := ⟨K0.out.1.below H, trivial⟩; clear H; have c23 := (K1.out.1.bx 2 _ _ _ rfl).c 23 _ fO.out)
    | ((with_reducible refine gen_world (((w.alloc (.cells C 29)).alloc (.cells D 40)).alloc (.cells (oCs d0 d1 D2) 55)) (fun y => Fm w [(w.heap.size, C, 29), (w.heap.size + 1, D, 40), (w.heap.size + 2, (oCs d0 d1 D2), 55)] y ∧ True) ?_ ?_); (exact ⟨Fm.three w _ _ _ _ _ _ , trivial⟩); intro y0 K0)
    | ((with_reducible refine at_load rtG (w.heap.size) C ?_ ?_ (.tmp 3) ?_ ?_ ?_ ?_); (first | exact K1.out.1.bx 0 _ _ _ rfl); (first | exact gC.out); kernel_rfl; rfl; rfl)
    | ((with_reducible refine at_load rtFn (w.heap.size + 1) D ?_ ?_ (.tmp 4) ?_ ?_ ?_ ?_); (first | exact K1.out.1.bx 1 _ _ _ rfl); (first | exact gD.out); kernel_rfl; rfl; rfl))
  go_ret
  exact ⟨rfl, K2.out.1.low⟩

theorem hangs_vast2 (w : World) (C D : Array Value) (g : Gm) (f : Fo) (D2 : Array Value) (f2 : Fo) (d0 d1 : Fd) (hg : Hid (GL w C g)) (hf : Hid (FL w D f)) (hf2 : Hid (FL w D2 f2)) (hd0 : Hid d0.Ok) (hd1 : Hid d1.Ok) (hv : Hid (vasG g.st.length g.pg.length g.me.length f.by_.length = false)) (hv2 : 2147483647 < f2.by_.length) :
    Calls Try.prog 6 #[.agg C, .agg D, .agg (oCs d0 d1 D2)] w fun e w' => e = .returned (.bool true) ∧ Below w.heap.size w w' := by
  have gC : Hid (C.size = 23) := hg.out.size.1
  have gD : Hid (D.size = 18) := hf.out.size
  have gD2 : Hid (D2.size = 18) := hf2.out.size
  obtain ⟨sB2, cB2, n2, eO⟩ : ∃ sB cB n, n = f2.by_.length ∧ (oCs d0 d1 D2)[23]? = some (.slice sB n cB) := by
    obtain ⟨⟨sB, cB', e, _⟩, _⟩ := hf2.out
    exact ⟨sB, cB', _, rfl, by rw [e]; rfl⟩
  have fO : Hid ((oCs d0 d1 D2)[23]? = some (.slice sB2 n2 cB2)) := eO.2
  have hn2 : Hid (n2 = f2.by_.length) := eO.1
  have oC0 : Hid (∀ y, Bx y (w.heap.size + 2) (oCs d0 d1 D2) 55 → y.rangeAt (w.heap.size + 2) 0 (dCs d0).toList) := fun y h => oCs_at0 h
  have oC3 : Hid (∀ y, Bx y (w.heap.size + 2) (oCs d0 d1 D2) 55 → y.rangeAt (w.heap.size + 2) 3 (dCs d1).toList) := fun y h => oCs_at3 h
  have oC6 : Hid (∀ y, Bx y (w.heap.size + 2) (oCs d0 d1 D2) 55 → y.rangeAt (w.heap.size + 2) 6 D2.toList) := fun y h => oCs_at6 hf2.out h
  have q0 : decide ((2147483647 : Int) < (n2 : Int)) = true := by rw [eO.1]; simp; omega
  clear eO hv2
  go_enter Try.func6, Try.ntmps6
  go_wp2_with (first
    | (go_at_call 15; refine (vast_gl y1 C D g f (hg.out.below K1.out.1.low) (hf.out.below K1.out.1.low)).mono ?_; rintro e y2 ⟨rfl, H⟩; have K2 : Hid (Fm w [(w.heap.size, C, 29), (w.heap.size + 1, D, 40), (w.heap.size + 2, (oCs d0 d1 D2), 55)] y2 ∧ True) := ⟨K1.out.1.below H, trivial⟩; rw [hv.out]; clear H; have c23b := (K2.out.1.bx 2 _ _ _ rfl).c 23 _ fO.out)
    | (go_at_call 8; refine (awake_any y0).mono ?_; rintro e y1 ⟨rfl, H⟩; have K1 : Hid (Fm w [(w.heap.size, C, 29), (w.heap.size + 1, D, 40), (w.heap.size + 2, (oCs d0 d1 D2), 55)] y1 ∧ True) := ⟨K0.out.1.below H, trivial⟩; clear H; have c23 := (K1.out.1.bx 2 _ _ _ rfl).c 23 _ fO.out)
    | ((with_reducible refine gen_world (((w.alloc (.cells C 29)).alloc (.cells D 40)).alloc (.cells (oCs d0 d1 D2) 55)) (fun y => Fm w [(w.heap.size, C, 29), (w.heap.size + 1, D, 40), (w.heap.size + 2, (oCs d0 d1 D2), 55)] y ∧ True) ?_ ?_); (exact ⟨Fm.three w _ _ _ _ _ _ , trivial⟩); intro y0 K0)
    | ((with_reducible refine at_load rtG (w.heap.size) C ?_ ?_ (.tmp 3) ?_ ?_ ?_ ?_); (first | exact K1.out.1.bx 0 _ _ _ rfl); (first | exact gC.out); kernel_rfl; rfl; rfl)
    | ((with_reducible refine at_load rtFn (w.heap.size + 1) D ?_ ?_ (.tmp 4) ?_ ?_ ?_ ?_); (first | exact K1.out.1.bx 1 _ _ _ rfl); (first | exact gD.out); kernel_rfl; rfl; rfl))
  go_ret
  exact ⟨rfl, K2.out.1.low⟩

theorem hangs_err (w : World) (C D : Array Value) (g : Gm) (f : Fo) (D2 : Array Value) (f2 : Fo) (d0 d1 : Fd) (hg : Hid (GL w C g)) (hf : Hid (FL w D f)) (hf2 : Hid (FL w D2 f2)) (hd0 : Hid d0.Ok) (hd1 : Hid d1.Ok) (hv : Hid (vasG g.st.length g.pg.length g.me.length f.by_.length = false)) (hv2 : f2.by_.length ≤ 2147483647) (hs : Hid (smaG g f)) (OD : Od) (nx : Nat) (hnx : Hid (nextG g = (OD, nx))) (s1 : Gm) (o1 e1 : Nat) (hs1 : Hid (stepG g f d0 = (s1, o1, e1))) (he : e1 ≠ 0) :
    Calls Try.prog 6 #[.agg C, .agg D, .agg (oCs d0 d1 D2)] w fun e w' => e = .returned (.bool true) ∧ Below w.heap.size w w' := by
  have gC : Hid (C.size = 23) := hg.out.size.1
  have gD : Hid (D.size = 18) := hf.out.size
  have gD2 : Hid (D2.size = 18) := hf2.out.size
  obtain ⟨sB2, cB2, n2, eO⟩ : ∃ sB cB n, n = f2.by_.length ∧ (oCs d0 d1 D2)[23]? = some (.slice sB n cB) := by
    obtain ⟨⟨sB, cB', e, _⟩, _⟩ := hf2.out
    exact ⟨sB, cB', _, rfl, by rw [e]; rfl⟩
  have fO : Hid ((oCs d0 d1 D2)[23]? = some (.slice sB2 n2 cB2)) := eO.2
  have hn2 : Hid (n2 = f2.by_.length) := eO.1
  have oC0 : Hid (∀ y, Bx y (w.heap.size + 2) (oCs d0 d1 D2) 55 → y.rangeAt (w.heap.size + 2) 0 (dCs d0).toList) := fun y h => oCs_at0 h
  have oC3 : Hid (∀ y, Bx y (w.heap.size + 2) (oCs d0 d1 D2) 55 → y.rangeAt (w.heap.size + 2) 3 (dCs d1).toList) := fun y h => oCs_at3 h
  have oC6 : Hid (∀ y, Bx y (w.heap.size + 2) (oCs d0 d1 D2) 55 → y.rangeAt (w.heap.size + 2) 6 D2.toList) := fun y h => oCs_at6 hf2.out h
  have q0 : decide ((2147483647 : Int) < (n2 : Int)) = false := by rw [eO.1]; simp; omega
  have q1 : ((e1 : Int) != 0) = true := by simp; omega
  clear eO hv2 he
  go_enter Try.func6, Try.ntmps6
  go_wp2_with (first
    | ((with_reducible refine at_st rtG y10.heap.size #[.int .u8 0, .int .u8 0, .int .u8 0, .int .u8 0, .int .u8 0, .int .u8 0, .int .u8 0, .int .u8 0, .int .u8 0, .int .u8 0, .int .u8 0, .int .u8 0, .int .u8 0, .int .u8 0, .int .u8 0, .int .u8 0, .int .u16 0, .int .u16 0, .slice none 0 0, .int .u8 0, .int .u8 0, .slice none 0 0, .slice none 0 0] C1 ?_ ?_ ?_ ?_ (.tmp 12) (.tmp 47) ?_ ?_ ?_ ?_ ?_); exact K11.out.1.bx 6 _ _ _ rfl; rfl; exact (K11.out.2.1).lies.size.1; exact (K11.out.2.1).lies.size.2.1; rfl; rfl; rfl; rfl; intro y12 H12; have K12 : Hid (Fm w [(w.heap.size, C, 29), (w.heap.size + 1, D, 40), (w.heap.size + 2, (oCs d0 d1 D2), 55), (y2.heap.size, (dCs d0), 50), (y4.heap.size, (dCs d1), 50), (y7.heap.size, (o6 OD), 45), (y10.heap.size, C1, 29)] y12 ∧ GO w.heap.size y12 C1 s1 ∧ True) := ⟨K11.out.1.put 6 _ _ _ _ rfl H12.out, (K11.out.2.1).offT (K11.out.1.bx 6 _ _ _ rfl) (by decide) (by decide) H12.out.2.2, trivial⟩; clear H12 K11)
    | ((with_reducible refine gen_world (y10.alloc (.cells #[.int .u8 0, .int .u8 0, .int .u8 0, .int .u8 0, .int .u8 0, .int .u8 0, .int .u8 0, .int .u8 0, .int .u8 0, .int .u8 0, .int .u8 0, .int .u8 0, .int .u8 0, .int .u8 0, .int .u8 0, .int .u8 0, .int .u16 0, .int .u16 0, .slice none 0 0, .int .u8 0, .int .u8 0, .slice none 0 0, .slice none 0 0] 29)) (fun y => Fm w [(w.heap.size, C, 29), (w.heap.size + 1, D, 40), (w.heap.size + 2, (oCs d0 d1 D2), 55), (y2.heap.size, (dCs d0), 50), (y4.heap.size, (dCs d1), 50), (y7.heap.size, (o6 OD), 45), (y10.heap.size, #[.int .u8 0, .int .u8 0, .int .u8 0, .int .u8 0, .int .u8 0, .int .u8 0, .int .u8 0, .int .u8 0, .int .u8 0, .int .u8 0, .int .u8 0, .int .u8 0, .int .u8 0, .int .u8 0, .int .u8 0, .int .u8 0, .int .u16 0, .int .u16 0, .slice none 0 0, .int .u8 0, .int .u8 0, .slice none 0 0, .slice none 0 0], 29)] y ∧ GO w.heap.size y C1 s1 ∧ True) ?_ ?_); (exact ⟨K10.out.1.new _ _, (K10.out.2.1).below (below1 y10 _), trivial⟩); intro y11 K11)
    | (go_at_call 22; refine (step_any y9 C D g f d0 (hg.out.below K9.out.1.low) (hf.out.below K9.out.1.low) hd0.out hs.out).mono ?_; rintro e y10 ⟨C1, rfl, J, H⟩; have K10 : Hid (Fm w [(w.heap.size, C, 29), (w.heap.size + 1, D, 40), (w.heap.size + 2, (oCs d0 d1 D2), 55), (y2.heap.size, (dCs d0), 50), (y4.heap.size, (dCs d1), 50), (y7.heap.size, (o6 OD), 45)] y10 ∧ GO w.heap.size y10 C1 s1 ∧ True) := ⟨K9.out.1.below H, (by have h := J; simp only [hs1.out] at h; exact h.weak K9.out.1.low.size), trivial⟩; (simp only [hs1.out]); clear H J)
    | ((with_reducible refine at_st rtO y7.heap.size #[.int .u8 0, .int .u8 0, .int .u8 0, .int .u8 0, .int .u8 0, .int .u16 0] (o6 OD) ?_ ?_ ?_ ?_ (.tmp 10) (.tmp 40) ?_ ?_ ?_ ?_ ?_); exact K8.out.1.bx 5 _ _ _ rfl; rfl; rfl; exact o6_one OD; rfl; rfl; rfl; rfl; intro y9 H9; have K9 : Hid (Fm w [(w.heap.size, C, 29), (w.heap.size + 1, D, 40), (w.heap.size + 2, (oCs d0 d1 D2), 55), (y2.heap.size, (dCs d0), 50), (y4.heap.size, (dCs d1), 50), (y7.heap.size, (o6 OD), 45)] y9 ∧ True) := ⟨K8.out.1.put 5 _ _ _ _ rfl H9.out, trivial⟩; clear H9 K8)
    | ((with_reducible refine gen_world (y7.alloc (.cells #[.int .u8 0, .int .u8 0, .int .u8 0, .int .u8 0, .int .u8 0, .int .u16 0] 45)) (fun y => Fm w [(w.heap.size, C, 29), (w.heap.size + 1, D, 40), (w.heap.size + 2, (oCs d0 d1 D2), 55), (y2.heap.size, (dCs d0), 50), (y4.heap.size, (dCs d1), 50), (y7.heap.size, #[.int .u8 0, .int .u8 0, .int .u8 0, .int .u8 0, .int .u8 0, .int .u16 0], 45)] y ∧ True) ?_ ?_); (exact ⟨K7.out.1.new _ _, trivial⟩); intro y8 K8)
    | (go_at_call 18; refine (next_any y6 C g (hg.out.below K6.out.1.low)).mono ?_; rintro e y7 ⟨rfl, H⟩; have K7 : Hid (Fm w [(w.heap.size, C, 29), (w.heap.size + 1, D, 40), (w.heap.size + 2, (oCs d0 d1 D2), 55), (y2.heap.size, (dCs d0), 50), (y4.heap.size, (dCs d1), 50)] y7 ∧ True) := ⟨K6.out.1.below H, trivial⟩; (simp only [hnx.out]); clear H)
    | ((with_reducible refine at_st rtFd y4.heap.size #[.int .u8 0, .int .u16 0, .int .i64 0] (dCs d1) ?_ ?_ ?_ ?_ (.tmp 9) (.tmp 36) ?_ ?_ ?_ ?_ ?_); exact K5.out.1.bx 4 _ _ _ rfl; rfl; rfl; exact dCs_one d1; rfl; rfl; rfl; rfl; intro y6 H6; have K6 : Hid (Fm w [(w.heap.size, C, 29), (w.heap.size + 1, D, 40), (w.heap.size + 2, (oCs d0 d1 D2), 55), (y2.heap.size, (dCs d0), 50), (y4.heap.size, (dCs d1), 50)] y6 ∧ True) := ⟨K5.out.1.put 4 _ _ _ _ rfl H6.out, trivial⟩; clear H6 K5)
    | ((with_reducible refine gen_world (y4.alloc (.cells #[.int .u8 0, .int .u16 0, .int .i64 0] 50)) (fun y => Fm w [(w.heap.size, C, 29), (w.heap.size + 1, D, 40), (w.heap.size + 2, (oCs d0 d1 D2), 55), (y2.heap.size, (dCs d0), 50), (y4.heap.size, #[.int .u8 0, .int .u16 0, .int .i64 0], 50)] y ∧ True) ?_ ?_); (exact ⟨K4.out.1.new _ _, trivial⟩); intro y5 K5)
    | ((with_reducible refine at_loadm rtFd (w.heap.size + 2) 3 (dCs d1) ?_ ?_ (.tmp 35) ?_ ?_ ?_ ?_); exact oC3.out _ (K4.out.1.bx 2 _ _ _ rfl); rfl; kernel_rfl; rfl; rfl)
    | ((with_reducible refine at_st rtFd y2.heap.size #[.int .u8 0, .int .u16 0, .int .i64 0] (dCs d0) ?_ ?_ ?_ ?_ (.tmp 8) (.tmp 34) ?_ ?_ ?_ ?_ ?_); exact K3.out.1.bx 3 _ _ _ rfl; rfl; rfl; exact dCs_one d0; rfl; rfl; rfl; rfl; intro y4 H4; have K4 : Hid (Fm w [(w.heap.size, C, 29), (w.heap.size + 1, D, 40), (w.heap.size + 2, (oCs d0 d1 D2), 55), (y2.heap.size, (dCs d0), 50)] y4 ∧ True) := ⟨K3.out.1.put 3 _ _ _ _ rfl H4.out, trivial⟩; clear H4 K3)
    | ((with_reducible refine gen_world (y2.alloc (.cells #[.int .u8 0, .int .u16 0, .int .i64 0] 50)) (fun y => Fm w [(w.heap.size, C, 29), (w.heap.size + 1, D, 40), (w.heap.size + 2, (oCs d0 d1 D2), 55), (y2.heap.size, #[.int .u8 0, .int .u16 0, .int .i64 0], 50)] y ∧ True) ?_ ?_); (exact ⟨K2.out.1.new _ _, trivial⟩); intro y3 K3)
    | ((with_reducible refine at_loadm rtFd (w.heap.size + 2) 0 (dCs d0) ?_ ?_ (.tmp 33) ?_ ?_ ?_ ?_); exact oC0.out _ (K2.out.1.bx 2 _ _ _ rfl); rfl; kernel_rfl; rfl; rfl)
    | (go_at_call 15; refine (vast_gl y1 C D g f (hg.out.below K1.out.1.low) (hf.out.below K1.out.1.low)).mono ?_; rintro e y2 ⟨rfl, H⟩; have K2 : Hid (Fm w [(w.heap.size, C, 29), (w.heap.size + 1, D, 40), (w.heap.size + 2, (oCs d0 d1 D2), 55)] y2 ∧ True) := ⟨K1.out.1.below H, trivial⟩; rw [hv.out]; clear H; have c23b := (K2.out.1.bx 2 _ _ _ rfl).c 23 _ fO.out)
    | (go_at_call 8; refine (awake_any y0).mono ?_; rintro e y1 ⟨rfl, H⟩; have K1 : Hid (Fm w [(w.heap.size, C, 29), (w.heap.size + 1, D, 40), (w.heap.size + 2, (oCs d0 d1 D2), 55)] y1 ∧ True) := ⟨K0.out.1.below H, trivial⟩; clear H; have c23 := (K1.out.1.bx 2 _ _ _ rfl).c 23 _ fO.out)
    | ((with_reducible refine gen_world (((w.alloc (.cells C 29)).alloc (.cells D 40)).alloc (.cells (oCs d0 d1 D2) 55)) (fun y => Fm w [(w.heap.size, C, 29), (w.heap.size + 1, D, 40), (w.heap.size + 2, (oCs d0 d1 D2), 55)] y ∧ True) ?_ ?_); (exact ⟨Fm.three w _ _ _ _ _ _ , trivial⟩); intro y0 K0)
    | ((with_reducible refine at_load rtG (w.heap.size) C ?_ ?_ (.tmp 3) ?_ ?_ ?_ ?_); (first | exact K9.out.1.bx 0 _ _ _ rfl | exact K6.out.1.bx 0 _ _ _ rfl | exact K1.out.1.bx 0 _ _ _ rfl); (first | exact gC.out); kernel_rfl; rfl; rfl)
    | ((with_reducible refine at_load rtFn (w.heap.size + 1) D ?_ ?_ (.tmp 4) ?_ ?_ ?_ ?_); (first | exact K9.out.1.bx 1 _ _ _ rfl | exact K1.out.1.bx 1 _ _ _ rfl); (first | exact gD.out); kernel_rfl; rfl; rfl)
    | ((with_reducible refine at_load rtFd (y2.heap.size) (dCs d0) ?_ ?_ (.tmp 8) ?_ ?_ ?_ ?_); (first | exact K9.out.1.bx 3 _ _ _ rfl); (first | rfl); kernel_rfl; rfl; rfl))
  go_ret
  exact ⟨rfl, K12.out.1.low⟩

theorem hangs_nx (w : World) (C D : Array Value) (g : Gm) (f : Fo) (D2 : Array Value) (f2 : Fo) (d0 d1 : Fd) (hg : Hid (GL w C g)) (hf : Hid (FL w D f)) (hf2 : Hid (FL w D2 f2)) (hd0 : Hid d0.Ok) (hd1 : Hid d1.Ok) (hv : Hid (vasG g.st.length g.pg.length g.me.length f.by_.length = false)) (hv2 : f2.by_.length ≤ 2147483647) (hs : Hid (smaG g f)) (OD : Od) (nx : Nat) (hnx : Hid (nextG g = (OD, nx))) (s1 : Gm) (o1 e1 : Nat) (hs1 : Hid (stepG g f d0 = (s1, o1, e1))) (he : e1 = 0) (hx : nx ≠ 1) :
    Calls Try.prog 6 #[.agg C, .agg D, .agg (oCs d0 d1 D2)] w fun e w' => e = .returned (.bool true) ∧ Below w.heap.size w w' := by
  have gC : Hid (C.size = 23) := hg.out.size.1
  have gD : Hid (D.size = 18) := hf.out.size
  have gD2 : Hid (D2.size = 18) := hf2.out.size
  obtain ⟨sB2, cB2, n2, eO⟩ : ∃ sB cB n, n = f2.by_.length ∧ (oCs d0 d1 D2)[23]? = some (.slice sB n cB) := by
    obtain ⟨⟨sB, cB', e, _⟩, _⟩ := hf2.out
    exact ⟨sB, cB', _, rfl, by rw [e]; rfl⟩
  have fO : Hid ((oCs d0 d1 D2)[23]? = some (.slice sB2 n2 cB2)) := eO.2
  have hn2 : Hid (n2 = f2.by_.length) := eO.1
  have oC0 : Hid (∀ y, Bx y (w.heap.size + 2) (oCs d0 d1 D2) 55 → y.rangeAt (w.heap.size + 2) 0 (dCs d0).toList) := fun y h => oCs_at0 h
  have oC3 : Hid (∀ y, Bx y (w.heap.size + 2) (oCs d0 d1 D2) 55 → y.rangeAt (w.heap.size + 2) 3 (dCs d1).toList) := fun y h => oCs_at3 h
  have oC6 : Hid (∀ y, Bx y (w.heap.size + 2) (oCs d0 d1 D2) 55 → y.rangeAt (w.heap.size + 2) 6 D2.toList) := fun y h => oCs_at6 hf2.out h
  have q0 : decide ((2147483647 : Int) < (n2 : Int)) = false := by rw [eO.1]; simp; omega
  have q1 : ((e1 : Int) != 0) = false := by simp; omega
  have q2 : ((nx : Int) != 1) = true := by simp; omega
  clear eO hv2 he hx
  go_enter Try.func6, Try.ntmps6
  go_wp2_with (first
    | ((with_reducible refine at_st rtG y10.heap.size #[.int .u8 0, .int .u8 0, .int .u8 0, .int .u8 0, .int .u8 0, .int .u8 0, .int .u8 0, .int .u8 0, .int .u8 0, .int .u8 0, .int .u8 0, .int .u8 0, .int .u8 0, .int .u8 0, .int .u8 0, .int .u8 0, .int .u16 0, .int .u16 0, .slice none 0 0, .int .u8 0, .int .u8 0, .slice none 0 0, .slice none 0 0] C1 ?_ ?_ ?_ ?_ (.tmp 12) (.tmp 47) ?_ ?_ ?_ ?_ ?_); exact K11.out.1.bx 6 _ _ _ rfl; rfl; exact (K11.out.2.1).lies.size.1; exact (K11.out.2.1).lies.size.2.1; rfl; rfl; rfl; rfl; intro y12 H12; have K12 : Hid (Fm w [(w.heap.size, C, 29), (w.heap.size + 1, D, 40), (w.heap.size + 2, (oCs d0 d1 D2), 55), (y2.heap.size, (dCs d0), 50), (y4.heap.size, (dCs d1), 50), (y7.heap.size, (o6 OD), 45), (y10.heap.size, C1, 29)] y12 ∧ GO w.heap.size y12 C1 s1 ∧ True) := ⟨K11.out.1.put 6 _ _ _ _ rfl H12.out, (K11.out.2.1).offT (K11.out.1.bx 6 _ _ _ rfl) (by decide) (by decide) H12.out.2.2, trivial⟩; clear H12 K11)
    | ((with_reducible refine gen_world (y10.alloc (.cells #[.int .u8 0, .int .u8 0, .int .u8 0, .int .u8 0, .int .u8 0, .int .u8 0, .int .u8 0, .int .u8 0, .int .u8 0, .int .u8 0, .int .u8 0, .int .u8 0, .int .u8 0, .int .u8 0, .int .u8 0, .int .u8 0, .int .u16 0, .int .u16 0, .slice none 0 0, .int .u8 0, .int .u8 0, .slice none 0 0, .slice none 0 0] 29)) (fun y => Fm w [(w.heap.size, C, 29), (w.heap.size + 1, D, 40), (w.heap.size + 2, (oCs d0 d1 D2), 55), (y2.heap.size, (dCs d0), 50), (y4.heap.size, (dCs d1), 50), (y7.heap.size, (o6 OD), 45), (y10.heap.size, #[.int .u8 0, .int .u8 0, .int .u8 0, .int .u8 0, .int .u8 0, .int .u8 0, .int .u8 0, .int .u8 0, .int .u8 0, .int .u8 0, .int .u8 0, .int .u8 0, .int .u8 0, .int .u8 0, .int .u8 0, .int .u8 0, .int .u16 0, .int .u16 0, .slice none 0 0, .int .u8 0, .int .u8 0, .slice none 0 0, .slice none 0 0], 29)] y ∧ GO w.heap.size y C1 s1 ∧ True) ?_ ?_); (exact ⟨K10.out.1.new _ _, (K10.out.2.1).below (below1 y10 _), trivial⟩); intro y11 K11)
    | (go_at_call 22; refine (step_any y9 C D g f d0 (hg.out.below K9.out.1.low) (hf.out.below K9.out.1.low) hd0.out hs.out).mono ?_; rintro e y10 ⟨C1, rfl, J, H⟩; have K10 : Hid (Fm w [(w.heap.size, C, 29), (w.heap.size + 1, D, 40), (w.heap.size + 2, (oCs d0 d1 D2), 55), (y2.heap.size, (dCs d0), 50), (y4.heap.size, (dCs d1), 50), (y7.heap.size, (o6 OD), 45)] y10 ∧ GO w.heap.size y10 C1 s1 ∧ True) := ⟨K9.out.1.below H, (by have h := J; simp only [hs1.out] at h; exact h.weak K9.out.1.low.size), trivial⟩; (simp only [hs1.out]); clear H J)
    | ((with_reducible refine at_st rtO y7.heap.size #[.int .u8 0, .int .u8 0, .int .u8 0, .int .u8 0, .int .u8 0, .int .u16 0] (o6 OD) ?_ ?_ ?_ ?_ (.tmp 10) (.tmp 40) ?_ ?_ ?_ ?_ ?_); exact K8.out.1.bx 5 _ _ _ rfl; rfl; rfl; exact o6_one OD; rfl; rfl; rfl; rfl; intro y9 H9; have K9 : Hid (Fm w [(w.heap.size, C, 29), (w.heap.size + 1, D, 40), (w.heap.size + 2, (oCs d0 d1 D2), 55), (y2.heap.size, (dCs d0), 50), (y4.heap.size, (dCs d1), 50), (y7.heap.size, (o6 OD), 45)] y9 ∧ True) := ⟨K8.out.1.put 5 _ _ _ _ rfl H9.out, trivial⟩; clear H9 K8)
    | ((with_reducible refine gen_world (y7.alloc (.cells #[.int .u8 0, .int .u8 0, .int .u8 0, .int .u8 0, .int .u8 0, .int .u16 0] 45)) (fun y => Fm w [(w.heap.size, C, 29), (w.heap.size + 1, D, 40), (w.heap.size + 2, (oCs d0 d1 D2), 55), (y2.heap.size, (dCs d0), 50), (y4.heap.size, (dCs d1), 50), (y7.heap.size, #[.int .u8 0, .int .u8 0, .int .u8 0, .int .u8 0, .int .u8 0, .int .u16 0], 45)] y ∧ True) ?_ ?_); (exact ⟨K7.out.1.new _ _, trivial⟩); intro y8 K8)
    | (go_at_call 18; refine (next_any y6 C g (hg.out.below K6.out.1.low)).mono ?_; rintro e y7 ⟨rfl, H⟩; have K7 : Hid (Fm w [(w.heap.size, C, 29), (w.heap.size + 1, D, 40), (w.heap.size + 2, (oCs d0 d1 D2), 55), (y2.heap.size, (dCs d0), 50), (y4.heap.size, (dCs d1), 50)] y7 ∧ True) := ⟨K6.out.1.below H, trivial⟩; (simp only [hnx.out]); clear H)
    | ((with_reducible refine at_st rtFd y4.heap.size #[.int .u8 0, .int .u16 0, .int .i64 0] (dCs d1) ?_ ?_ ?_ ?_ (.tmp 9) (.tmp 36) ?_ ?_ ?_ ?_ ?_); exact K5.out.1.bx 4 _ _ _ rfl; rfl; rfl; exact dCs_one d1; rfl; rfl; rfl; rfl; intro y6 H6; have K6 : Hid (Fm w [(w.heap.size, C, 29), (w.heap.size + 1, D, 40), (w.heap.size + 2, (oCs d0 d1 D2), 55), (y2.heap.size, (dCs d0), 50), (y4.heap.size, (dCs d1), 50)] y6 ∧ True) := ⟨K5.out.1.put 4 _ _ _ _ rfl H6.out, trivial⟩; clear H6 K5)
    | ((with_reducible refine gen_world (y4.alloc (.cells #[.int .u8 0, .int .u16 0, .int .i64 0] 50)) (fun y => Fm w [(w.heap.size, C, 29), (w.heap.size + 1, D, 40), (w.heap.size + 2, (oCs d0 d1 D2), 55), (y2.heap.size, (dCs d0), 50), (y4.heap.size, #[.int .u8 0, .int .u16 0, .int .i64 0], 50)] y ∧ True) ?_ ?_); (exact ⟨K4.out.1.new _ _, trivial⟩); intro y5 K5)
    | ((with_reducible refine at_loadm rtFd (w.heap.size + 2) 3 (dCs d1) ?_ ?_ (.tmp 35) ?_ ?_ ?_ ?_); exact oC3.out _ (K4.out.1.bx 2 _ _ _ rfl); rfl; kernel_rfl; rfl; rfl)
    | ((with_reducible refine at_st rtFd y2.heap.size #[.int .u8 0, .int .u16 0, .int .i64 0] (dCs d0) ?_ ?_ ?_ ?_ (.tmp 8) (.tmp 34) ?_ ?_ ?_ ?_ ?_); exact K3.out.1.bx 3 _ _ _ rfl; rfl; rfl; exact dCs_one d0; rfl; rfl; rfl; rfl; intro y4 H4; have K4 : Hid (Fm w [(w.heap.size, C, 29), (w.heap.size + 1, D, 40), (w.heap.size + 2, (oCs d0 d1 D2), 55), (y2.heap.size, (dCs d0), 50)] y4 ∧ True) := ⟨K3.out.1.put 3 _ _ _ _ rfl H4.out, trivial⟩; clear H4 K3)
    | ((with_reducible refine gen_world (y2.alloc (.cells #[.int .u8 0, .int .u16 0, .int .i64 0] 50)) (fun y => Fm w [(w.heap.size, C, 29), (w.heap.size + 1, D, 40), (w.heap.size + 2, (oCs d0 d1 D2), 55), (y2.heap.size, #[.int .u8 0, .int .u16 0, .int .i64 0], 50)] y ∧ True) ?_ ?_); (exact ⟨K2.out.1.new _ _, trivial⟩); intro y3 K3)
    | ((with_reducible refine at_loadm rtFd (w.heap.size + 2) 0 (dCs d0) ?_ ?_ (.tmp 33) ?_ ?_ ?_ ?_); exact oC0.out _ (K2.out.1.bx 2 _ _ _ rfl); rfl; kernel_rfl; rfl; rfl)
    | (go_at_call 15; refine (vast_gl y1 C D g f (hg.out.below K1.out.1.low) (hf.out.below K1.out.1.low)).mono ?_; rintro e y2 ⟨rfl, H⟩; have K2 : Hid (Fm w [(w.heap.size, C, 29), (w.heap.size + 1, D, 40), (w.heap.size + 2, (oCs d0 d1 D2), 55)] y2 ∧ True) := ⟨K1.out.1.below H, trivial⟩; rw [hv.out]; clear H; have c23b := (K2.out.1.bx 2 _ _ _ rfl).c 23 _ fO.out)
    | (go_at_call 8; refine (awake_any y0).mono ?_; rintro e y1 ⟨rfl, H⟩; have K1 : Hid (Fm w [(w.heap.size, C, 29), (w.heap.size + 1, D, 40), (w.heap.size + 2, (oCs d0 d1 D2), 55)] y1 ∧ True) := ⟨K0.out.1.below H, trivial⟩; clear H; have c23 := (K1.out.1.bx 2 _ _ _ rfl).c 23 _ fO.out)
    | ((with_reducible refine gen_world (((w.alloc (.cells C 29)).alloc (.cells D 40)).alloc (.cells (oCs d0 d1 D2) 55)) (fun y => Fm w [(w.heap.size, C, 29), (w.heap.size + 1, D, 40), (w.heap.size + 2, (oCs d0 d1 D2), 55)] y ∧ True) ?_ ?_); (exact ⟨Fm.three w _ _ _ _ _ _ , trivial⟩); intro y0 K0)
    | ((with_reducible refine at_load rtG (w.heap.size) C ?_ ?_ (.tmp 3) ?_ ?_ ?_ ?_); (first | exact K9.out.1.bx 0 _ _ _ rfl | exact K6.out.1.bx 0 _ _ _ rfl | exact K1.out.1.bx 0 _ _ _ rfl); (first | exact gC.out); kernel_rfl; rfl; rfl)
    | ((with_reducible refine at_load rtFn (w.heap.size + 1) D ?_ ?_ (.tmp 4) ?_ ?_ ?_ ?_); (first | exact K9.out.1.bx 1 _ _ _ rfl | exact K1.out.1.bx 1 _ _ _ rfl); (first | exact gD.out); kernel_rfl; rfl; rfl)
    | ((with_reducible refine at_load rtFd (y2.heap.size) (dCs d0) ?_ ?_ (.tmp 8) ?_ ?_ ?_ ?_); (first | exact K9.out.1.bx 3 _ _ _ rfl); (first | rfl); kernel_rfl; rfl; rfl))
  go_ret
  exact ⟨rfl, K12.out.1.low⟩

end Go.Proofs.Ytilflcffcocncaa
