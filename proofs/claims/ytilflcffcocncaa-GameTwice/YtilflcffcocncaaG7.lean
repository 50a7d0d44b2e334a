/- The statements' own: what the program's calls promise, and GameMay over it. -/
import Derived.Test.YtilflcffcocncaaG6
import Derived.Test.YtilflcffcocncaaG2
namespace Go.Proofs.Ytilflcffcocncaa
open Go Go.RowKit Go.Shelf
set_option linter.unusedVariables false
set_option maxHeartbeats 1000000
set_option maxRecDepth 20000

/-- A feed's cells. -/
def dCs (d : Fd) : Array Value := #[byV d.rn, .int .u16 (d.ks : Int), .int .i64 d.ky]
structure Fd.Ok (d : Fd) : Prop where
  ks : d.ks < 65536
  ky : -9223372036854775808 ≤ d.ky ∧ d.ky ≤ 9223372036854775807
/-- A font that lies in memory. -/
structure FL (w : World) (D : Array Value) (f : Fo) : Prop where
  c : ∃ (sB : Option Addr) (cB' : Nat), D = fCs f.pl f.fr (.slice sB f.by_.length cB') ∧ LB w sB f.by_
  n : f.pl.length = 16
  pl : ∀ s ∈ f.pl, s < 65536
  fr : f.fr < 65536
theorem FL.below {w y : World} {D : Array Value} {f : Fo} (h : FL w D f) (hb : Below w.heap.size w y) : FL y D f := by
  obtain ⟨⟨sB, cB', e, h1⟩, h2, h3, h4⟩ := h
  exact ⟨⟨sB, cB', e, h1.below hb⟩, h2, h3, h4⟩
theorem GO.below {B : Nat} {w y : World} {C : Array Value} {g : Gm} (h : GO B w C g) (hb : Below w.heap.size w y) : GO B y C g := by
  obtain ⟨⟨vS, vP, vM, e, h1, h2, h3, h4⟩, ok⟩ := h
  exact ⟨⟨vS, vP, vM, e, h1.below hb, h2.below hb, h3.below hb, h4⟩, ok⟩
theorem rtFn : Rt Try.prog 40 18 := ⟨⟨_, Try.underlying40, rfl⟩, by kernel_rfl⟩
theorem rtFd : Rt Try.prog 50 3 := ⟨⟨_, Try.underlying50, rfl⟩, by kernel_rfl⟩
theorem GL.size {w : World} {C : Array Value} {g : Gm} (h : GL w C g) : C.size = 23 ∧ C.all (·.oneCell') = true ∧ ∃ sp cap, C[21]? = some (.slice sp g.pg.length cap) := by
  obtain ⟨⟨sS, sP, sM, cS, cP, cM, rfl, h1, h2, h3⟩, ok⟩ := h
  refine ⟨rfl, ?_, sP, cP, rfl⟩
  unfold gCs gV byV
  simp [Value.oneCell']
theorem FL.size {w : World} {D : Array Value} {f : Fo} (h : FL w D f) : D.size = 18 := by
  obtain ⟨⟨sB, cB', rfl, h1⟩, h2, h3, h4⟩ := h
  rfl
/-- Not more than the document's bound. -/
def smaG (g : Gm) (f : Fo) : Prop := g.st.length + g.pg.length + g.me.length + f.by_.length ≤ 2147483647
/-- What the program's own calls promise, where T stands. -/
structure Acts (T : World → Prop) : Prop where
  t : ∀ x y, T x → Below x.heap.size x y → T y
  aw : ∀ w, T w → Calls Try.prog 8 #[] w fun e w' => e = .returned (.bool true) ∧ Below w.heap.size w w'
  ck : ∀ w C g, T w → GL w C g → Calls Try.prog 17 #[.agg C] w fun e w' => e = .returned (.int .i64 (if g.may then 0 else 180)) ∧ Below w.heap.size w w'
  st : ∀ w C g D f d, T w → GL w C g → FL w D f → d.Ok → smaG g f → Calls Try.prog 22 #[.agg C, .agg D, .agg (dCs d)] w fun e w' => ∃ C', e = .returned (.tuple #[.agg C', .int .u8 ((stepG g f d).2.1 : Int), .int .i64 ((stepG g f d).2.2 : Int)]) ∧ GO w.heap.size w' C' (stepG g f d).1 ∧ Below w.heap.size w w'
  tk : ∀ w C g, T w → GL w C g → g.st.length + g.pg.length + g.me.length ≤ 2147483647 → Calls Try.prog 23 #[.agg C] w fun e w' => ∃ C', e = .returned (.agg C') ∧ GO w.heap.size w' C' (tickG g) ∧ Below w.heap.size w w'
theorem vast_gl (w : World) (C D : Array Value) (g : Gm) (f : Fo) (h : GL w C g) (k : FL w D f) : Calls Try.prog 15 #[.agg C, .agg D] w fun e w' => e = .returned (.bool (vasG g.st.length g.pg.length g.me.length f.by_.length)) ∧ Below w.heap.size w w' := by
  obtain ⟨⟨sS, sP, sM, cS, cP, cM, rfl, h1, h2, h3⟩, ok⟩ := h
  obtain ⟨⟨sB, cB', rfl, k1⟩, k2, k3, k4⟩ := k
  exact vast_any w _ _ _ _ _ _ _ _ _ _ _ _ _ _ _ _ _ _ _
theorem may_walk {T : World → Prop} (A : Hid (Acts T)) (w : World) (C D : Array Value) (g : Gm) (f : Fo) (d : Fd) (hw : Hid (T w)) (hg : Hid (GL w C g)) (hf : Hid (FL w D f)) (hd : Hid d.Ok) :
    Calls Try.prog 5 #[.agg C, .agg D, .agg (dCs d)] w fun e w' => e = .returned (.bool true) ∧ Below w.heap.size w w' := by
  have gC : Hid (C.size = 23) := hg.out.size.1
  have gD : Hid (D.size = 18) := hf.out.size
  have gE : Hid ((dCs d).size = 3) := rfl
  have A : Hid (Acts T) := A
  rcases hv0 : vasG g.st.length g.pg.length g.me.length f.by_.length with _ | _
  · have hv : Hid (vasG g.st.length g.pg.length g.me.length f.by_.length = false) := hv0
    have hs : Hid (smaG g f) := by
      show smaG g f
      unfold vasG at hv0
      unfold smaG
      simpa using hv0
    have hs2 : Hid (g.st.length + g.pg.length + g.me.length ≤ 2147483647) := Nat.le_trans (Nat.le_add_right _ _) hs.out
    clear hv0
    rcases hm0 : g.may with _ | _
    · have hm : Hid (g.may = false) := hm0
      have e0 : stepG g f d = (gz, 0, 180) := by unfold stepG; rw [hm0]; rfl
      have ho : Hid ((stepG g f d).2.1 = 0) := by rw [e0]; rfl
      have he : Hid ((stepG g f d).2.2 = 180) := by rw [e0]; rfl
      have z1 : (stepG g f d).1.pg.length = 0 := by rw [e0]; rfl
      have z2 : (tickG g).pg.length = 0 := by unfold tickG; rw [hm0]; rfl
      clear hm0 e0
      go_enter Try.func5, Try.ntmps5
      go_wp2_with (first
        | ((with_reducible refine gen_world (((w.alloc (.cells C 29)).alloc (.cells D 40)).alloc (.cells (dCs d) 50)) (Fm w [(w.heap.size, C, 29), (w.heap.size + 1, D, 40), (w.heap.size + 2, (dCs d), 50)]) ?_ ?_); exact Fm.three w _ _ _ _ _ _; intro y0 K0)
        | (go_at_call 8; refine (A.out.aw y0 (A.out.t _ _ hw.out K0.out.low)).mono ?_; rintro e y1 ⟨rfl, H1⟩; have K1 : Hid (Fm w [(w.heap.size, C, 29), (w.heap.size + 1, D, 40), (w.heap.size + 2, (dCs d), 50)] y1) := K0.out.below H1)
        | ((with_reducible refine at_load rtG w.heap.size C ?_ ?_ (.tmp 3) ?_ ?_ ?_ ?_); (first | exact K1.out.bx 0 _ _ _ rfl | exact K2.out.bx 0 _ _ _ rfl | exact K3.out.bx 0 _ _ _ rfl | exact K6.out.bx 0 _ _ _ rfl | exact Kb.out.bx 0 _ _ _ rfl); exact gC.out; kernel_rfl; rfl; rfl)
        | ((with_reducible refine at_load rtFn (w.heap.size + 1) D ?_ ?_ (.tmp 4) ?_ ?_ ?_ ?_); (first | exact K1.out.bx 1 _ _ _ rfl | exact K3.out.bx 1 _ _ _ rfl); exact gD.out; kernel_rfl; rfl; rfl)
        | ((with_reducible refine at_load rtFd (w.heap.size + 2) (dCs d) ?_ ?_ (.tmp 5) ?_ ?_ ?_ ?_); (first | exact K3.out.bx 2 _ _ _ rfl); exact gE.out; kernel_rfl; rfl; rfl)
        | (go_at_call 15; refine (vast_gl y1 C D g f (hg.out.below K1.out.low) (hf.out.below K1.out.low)).mono ?_; rintro e y2 ⟨rfl, H2⟩; have K2 : Hid (Fm w [(w.heap.size, C, 29), (w.heap.size + 1, D, 40), (w.heap.size + 2, (dCs d), 50)] y2) := K1.out.below H2; rw [hv.out])
        | (go_at_call 17; refine (A.out.ck y2 C g (A.out.t _ _ hw.out K2.out.low) (hg.out.below K2.out.low)).mono ?_; rintro e y3 ⟨rfl, H3⟩; have K3 : Hid (Fm w [(w.heap.size, C, 29), (w.heap.size + 1, D, 40), (w.heap.size + 2, (dCs d), 50)] y3) := K2.out.below H3; rw [hm.out])
        | (go_at_call 22; refine (A.out.st y3 C g D f d (A.out.t _ _ hw.out K3.out.low) (hg.out.below K3.out.low) (hf.out.below K3.out.low) hd.out hs.out).mono ?_; rintro e y4 ⟨C1, rfl, J4, H4⟩; have K4 : Hid (Fm w [(w.heap.size, C, 29), (w.heap.size + 1, D, 40), (w.heap.size + 2, (dCs d), 50)] y4) := K3.out.below H4; have J4 : Hid (GO y3.heap.size y4 C1 (stepG g f d).1) := J4; rw [ho.out, he.out])
        | ((with_reducible refine gen_world (y4.alloc (.cells #[.int .u8 0, .int .u8 0, .int .u8 0, .int .u8 0, .int .u8 0, .int .u8 0, .int .u8 0, .int .u8 0, .int .u8 0, .int .u8 0, .int .u8 0, .int .u8 0, .int .u8 0, .int .u8 0, .int .u8 0, .int .u8 0, .int .u16 0, .int .u16 0, .slice none 0 0, .int .u8 0, .int .u8 0, .slice none 0 0, .slice none 0 0] 29)) (fun x => Fm w [(w.heap.size, C, 29), (w.heap.size + 1, D, 40), (w.heap.size + 2, (dCs d), 50), (y4.heap.size, gZ, 29)] x ∧ Below y4.heap.size y4 x) ?_ ?_); (constructor; (have := K4.out.new gZ 29; unfold gZ at this ⊢; exact this); exact below1 _ _); intro y5 K5)
        | ((with_reducible refine at_st rtG y4.heap.size gZ C1 ?_ ?_ ?_ ?_ (.tmp 9) (.tmp 27) ?_ ?_ ?_ ?_ ?_); exact K5.out.1.bx 3 _ _ _ rfl; rfl; exact J4.out.lies.size.1; exact J4.out.lies.size.2.1; rfl; rfl; rfl; rfl; intro y6 H6; have K6 : Hid (Fm w [(w.heap.size, C, 29), (w.heap.size + 1, D, 40), (w.heap.size + 2, (dCs d), 50), (y4.heap.size, C1, 29)] y6) := K5.out.1.put 3 _ _ _ _ rfl H6.out; have J6 : Hid (GO y3.heap.size y6 C1 (stepG g f d).1) := J4.out.below (K5.out.2.trans (H6.out.2.1 _ (Nat.le_refl _))))
        | (go_at_call 23; refine (A.out.tk y6 C g (A.out.t _ _ hw.out K6.out.low) (hg.out.below K6.out.low) hs2.out).mono ?_; rintro e y7 ⟨C2, rfl, J7, H7⟩; have K7 : Hid (Fm w [(w.heap.size, C, 29), (w.heap.size + 1, D, 40), (w.heap.size + 2, (dCs d), 50), (y4.heap.size, C1, 29)] y7) := K6.out.below H7; have J7 : Hid (GO y6.heap.size y7 C2 (tickG g)) := J7; have L7 : Hid (GO y3.heap.size y7 C1 (stepG g f d).1) := J6.out.below H7)
        | ((with_reducible refine gen_world (y7.alloc (.cells #[.int .u8 0, .int .u8 0, .int .u8 0, .int .u8 0, .int .u8 0, .int .u8 0, .int .u8 0, .int .u8 0, .int .u8 0, .int .u8 0, .int .u8 0, .int .u8 0, .int .u8 0, .int .u8 0, .int .u8 0, .int .u8 0, .int .u16 0, .int .u16 0, .slice none 0 0, .int .u8 0, .int .u8 0, .slice none 0 0, .slice none 0 0] 29)) (fun x => Fm w [(w.heap.size, C, 29), (w.heap.size + 1, D, 40), (w.heap.size + 2, (dCs d), 50), (y4.heap.size, C1, 29), (y7.heap.size, gZ, 29)] x ∧ Below y7.heap.size y7 x) ?_ ?_); (constructor; (have := K7.out.new gZ 29; unfold gZ at this ⊢; exact this); exact below1 _ _); intro y8 K8)
        | ((with_reducible refine at_st rtG y7.heap.size gZ C2 ?_ ?_ ?_ ?_ (.tmp 12) (.tmp 31) ?_ ?_ ?_ ?_ ?_); exact K8.out.1.bx 4 _ _ _ rfl; rfl; exact J7.out.lies.size.1; exact J7.out.lies.size.2.1; rfl; rfl; rfl; rfl; intro y9 H9; have K9 : Hid (Fm w [(w.heap.size, C, 29), (w.heap.size + 1, D, 40), (w.heap.size + 2, (dCs d), 50), (y4.heap.size, C1, 29), (y7.heap.size, C2, 29)] y9) := K8.out.1.put 4 _ _ _ _ rfl H9.out; have J9 : Hid (GO y6.heap.size y9 C2 (tickG g)) := J7.out.below (K8.out.2.trans (H9.out.2.1 _ (Nat.le_refl _))); have L9 : Hid (GO y3.heap.size y9 C1 (stepG g f d).1) := L7.out.below (K8.out.2.trans (H9.out.2.1 _ (Nat.le_refl _))); obtain ⟨s1, c1, e1⟩ := L9.out.lies.size.2.2; obtain ⟨s2, c2, e2⟩ := J9.out.lies.size.2.2; have f1 := (K9.out.bx 3 _ _ _ rfl).c 21 _ e1; have f2 := (K9.out.bx 4 _ _ _ rfl).c 21 _ e2; clear e1 e2))
      go_ret
      exact ⟨rfl, K9.out.low⟩
    · have hm : Hid (g.may = true) := hm0
      have hm2 : Hid ((tickG g).may = true) := tick_may g hm0
      rcases hf0 : (fontG f && decide (d.ky ≤ 15)) with _ | _
      · have e0 := step_arg (d := d) hm0 hf0
        have ho : Hid ((stepG g f d).2.1 = 0) := by rw [e0]; rfl
        have he : Hid ((stepG g f d).2.2 = 1) := by rw [e0]; rfl
        have z1 : (stepG g f d).1.pg.length = 0 := by rw [e0]; rfl
        clear hm0 hf0 e0
        go_enter Try.func5, Try.ntmps5
        go_wp2_with (first
          | ((with_reducible refine gen_world (((w.alloc (.cells C 29)).alloc (.cells D 40)).alloc (.cells (dCs d) 50)) (Fm w [(w.heap.size, C, 29), (w.heap.size + 1, D, 40), (w.heap.size + 2, (dCs d), 50)]) ?_ ?_); exact Fm.three w _ _ _ _ _ _; intro y0 K0)
          | (go_at_call 8; refine (A.out.aw y0 (A.out.t _ _ hw.out K0.out.low)).mono ?_; rintro e y1 ⟨rfl, H1⟩; have K1 : Hid (Fm w [(w.heap.size, C, 29), (w.heap.size + 1, D, 40), (w.heap.size + 2, (dCs d), 50)] y1) := K0.out.below H1)
          | ((with_reducible refine at_load rtG w.heap.size C ?_ ?_ (.tmp 3) ?_ ?_ ?_ ?_); (first | exact K1.out.bx 0 _ _ _ rfl | exact K2.out.bx 0 _ _ _ rfl | exact K3.out.bx 0 _ _ _ rfl | exact K6.out.bx 0 _ _ _ rfl | exact Kb.out.bx 0 _ _ _ rfl); exact gC.out; kernel_rfl; rfl; rfl)
          | ((with_reducible refine at_load rtFn (w.heap.size + 1) D ?_ ?_ (.tmp 4) ?_ ?_ ?_ ?_); (first | exact K1.out.bx 1 _ _ _ rfl | exact K3.out.bx 1 _ _ _ rfl); exact gD.out; kernel_rfl; rfl; rfl)
          | ((with_reducible refine at_load rtFd (w.heap.size + 2) (dCs d) ?_ ?_ (.tmp 5) ?_ ?_ ?_ ?_); (first | exact K3.out.bx 2 _ _ _ rfl); exact gE.out; kernel_rfl; rfl; rfl)
          | (go_at_call 15; refine (vast_gl y1 C D g f (hg.out.below K1.out.low) (hf.out.below K1.out.low)).mono ?_; rintro e y2 ⟨rfl, H2⟩; have K2 : Hid (Fm w [(w.heap.size, C, 29), (w.heap.size + 1, D, 40), (w.heap.size + 2, (dCs d), 50)] y2) := K1.out.below H2; rw [hv.out])
          | (go_at_call 17; refine (A.out.ck y9 C2 (tickG g) (A.out.t _ _ hw.out K9.out.low) J9.out.lies).mono ?_; rintro e ya ⟨rfl, Ha⟩; have Ka : Hid (Fm w [(w.heap.size, C, 29), (w.heap.size + 1, D, 40), (w.heap.size + 2, (dCs d), 50), (y4.heap.size, C1, 29), (y7.heap.size, C2, 29)] ya) := K9.out.below Ha; have La : Hid (GO y3.heap.size ya C1 (stepG g f d).1) := L9.out.below Ha; obtain ⟨s3, c3, e3⟩ := La.out.lies.size.2.2; have f3 := (Ka.out.bx 3 _ _ _ rfl).c 21 _ e3; clear e3; rw [hm2.out])
          | (go_at_call 17; refine (A.out.ck y2 C g (A.out.t _ _ hw.out K2.out.low) (hg.out.below K2.out.low)).mono ?_; rintro e y3 ⟨rfl, H3⟩; have K3 : Hid (Fm w [(w.heap.size, C, 29), (w.heap.size + 1, D, 40), (w.heap.size + 2, (dCs d), 50)] y3) := K2.out.below H3; rw [hm.out])
          | (go_at_call 22; refine (A.out.st y3 C g D f d (A.out.t _ _ hw.out K3.out.low) (hg.out.below K3.out.low) (hf.out.below K3.out.low) hd.out hs.out).mono ?_; rintro e y4 ⟨C1, rfl, J4, H4⟩; have K4 : Hid (Fm w [(w.heap.size, C, 29), (w.heap.size + 1, D, 40), (w.heap.size + 2, (dCs d), 50)] y4) := K3.out.below H4; have J4 : Hid (GO y3.heap.size y4 C1 (stepG g f d).1) := J4; rw [ho.out, he.out])
          | ((with_reducible refine gen_world (y4.alloc (.cells #[.int .u8 0, .int .u8 0, .int .u8 0, .int .u8 0, .int .u8 0, .int .u8 0, .int .u8 0, .int .u8 0, .int .u8 0, .int .u8 0, .int .u8 0, .int .u8 0, .int .u8 0, .int .u8 0, .int .u8 0, .int .u8 0, .int .u16 0, .int .u16 0, .slice none 0 0, .int .u8 0, .int .u8 0, .slice none 0 0, .slice none 0 0] 29)) (fun x => Fm w [(w.heap.size, C, 29), (w.heap.size + 1, D, 40), (w.heap.size + 2, (dCs d), 50), (y4.heap.size, gZ, 29)] x ∧ Below y4.heap.size y4 x) ?_ ?_); (constructor; (have := K4.out.new gZ 29; unfold gZ at this ⊢; exact this); exact below1 _ _); intro y5 K5)
          | ((with_reducible refine at_st rtG y4.heap.size gZ C1 ?_ ?_ ?_ ?_ (.tmp 9) (.tmp 27) ?_ ?_ ?_ ?_ ?_); exact K5.out.1.bx 3 _ _ _ rfl; rfl; exact J4.out.lies.size.1; exact J4.out.lies.size.2.1; rfl; rfl; rfl; rfl; intro y6 H6; have K6 : Hid (Fm w [(w.heap.size, C, 29), (w.heap.size + 1, D, 40), (w.heap.size + 2, (dCs d), 50), (y4.heap.size, C1, 29)] y6) := K5.out.1.put 3 _ _ _ _ rfl H6.out; have J6 : Hid (GO y3.heap.size y6 C1 (stepG g f d).1) := J4.out.below (K5.out.2.trans (H6.out.2.1 _ (Nat.le_refl _))))
          | (go_at_call 23; refine (A.out.tk y6 C g (A.out.t _ _ hw.out K6.out.low) (hg.out.below K6.out.low) hs2.out).mono ?_; rintro e y7 ⟨C2, rfl, J7, H7⟩; have K7 : Hid (Fm w [(w.heap.size, C, 29), (w.heap.size + 1, D, 40), (w.heap.size + 2, (dCs d), 50), (y4.heap.size, C1, 29)] y7) := K6.out.below H7; have J7 : Hid (GO y6.heap.size y7 C2 (tickG g)) := J7; have L7 : Hid (GO y3.heap.size y7 C1 (stepG g f d).1) := J6.out.below H7)
          | ((with_reducible refine gen_world (y7.alloc (.cells #[.int .u8 0, .int .u8 0, .int .u8 0, .int .u8 0, .int .u8 0, .int .u8 0, .int .u8 0, .int .u8 0, .int .u8 0, .int .u8 0, .int .u8 0, .int .u8 0, .int .u8 0, .int .u8 0, .int .u8 0, .int .u8 0, .int .u16 0, .int .u16 0, .slice none 0 0, .int .u8 0, .int .u8 0, .slice none 0 0, .slice none 0 0] 29)) (fun x => Fm w [(w.heap.size, C, 29), (w.heap.size + 1, D, 40), (w.heap.size + 2, (dCs d), 50), (y4.heap.size, C1, 29), (y7.heap.size, gZ, 29)] x ∧ Below y7.heap.size y7 x) ?_ ?_); (constructor; (have := K7.out.new gZ 29; unfold gZ at this ⊢; exact this); exact below1 _ _); intro y8 K8)
          | ((with_reducible refine at_st rtG y7.heap.size gZ C2 ?_ ?_ ?_ ?_ (.tmp 12) (.tmp 31) ?_ ?_ ?_ ?_ ?_); exact K8.out.1.bx 4 _ _ _ rfl; rfl; exact J7.out.lies.size.1; exact J7.out.lies.size.2.1; rfl; rfl; rfl; rfl; intro y9 H9; have K9 : Hid (Fm w [(w.heap.size, C, 29), (w.heap.size + 1, D, 40), (w.heap.size + 2, (dCs d), 50), (y4.heap.size, C1, 29), (y7.heap.size, C2, 29)] y9) := K8.out.1.put 4 _ _ _ _ rfl H9.out; have J9 : Hid (GO y6.heap.size y9 C2 (tickG g)) := J7.out.below (K8.out.2.trans (H9.out.2.1 _ (Nat.le_refl _))); have L9 : Hid (GO y3.heap.size y9 C1 (stepG g f d).1) := L7.out.below (K8.out.2.trans (H9.out.2.1 _ (Nat.le_refl _))); obtain ⟨s1, c1, e1⟩ := L9.out.lies.size.2.2; obtain ⟨s2, c2, e2⟩ := J9.out.lies.size.2.2; have f1 := (K9.out.bx 3 _ _ _ rfl).c 21 _ e1; have f2 := (K9.out.bx 4 _ _ _ rfl).c 21 _ e2; clear e1 e2)
          | ((with_reducible refine at_load rtG y7.heap.size C2 ?_ ?_ (.tmp 12) ?_ ?_ ?_ ?_); (first | exact K9.out.bx 4 _ _ _ rfl); exact J9.out.lies.size.1; kernel_rfl; rfl; rfl))
        go_ret
        exact ⟨rfl, Ka.out.low⟩
      · have he0 : (stepG g f d).2.2 = 0 := by
          unfold stepG
          rw [if_pos hm0, if_pos hf0]
          split <;> (try split) <;> rfl
        have he : Hid ((stepG g f d).2.2 = 0) := he0
        have hm3 : Hid ((stepG g f d).1.may = true) := step_may g f d hm0 he0
        have hb1 : Hid ((stepG g f d).1.st.length ≤ 4000000000) := by have := (may_iff.1 hm3.out).2.2; show _ ≤ _; omega
        have hb2 : Hid (g.st.length ≤ 4000000000) := by have := (may_iff.1 hm0).2.2; show _ ≤ _; omega
        by_cases ho1 : (stepG g f d).2.1 = 1
        · have ho : Hid ((stepG g f d).2.1 = 1) := ho1
          obtain ⟨R, hR⟩ : ∃ R, decide ((stepG g f d).1 = g) = R := ⟨_, rfl⟩
          have hsm : Hid (decide ((stepG g f d).1 = g) = R) := hR
          clear hm0 hf0 he0 ho1 hR
          go_enter Try.func5, Try.ntmps5
          go_wp2_with (first
            | ((with_reducible refine gen_world (((w.alloc (.cells C 29)).alloc (.cells D 40)).alloc (.cells (dCs d) 50)) (Fm w [(w.heap.size, C, 29), (w.heap.size + 1, D, 40), (w.heap.size + 2, (dCs d), 50)]) ?_ ?_); exact Fm.three w _ _ _ _ _ _; intro y0 K0)
            | (go_at_call 8; refine (A.out.aw y0 (A.out.t _ _ hw.out K0.out.low)).mono ?_; rintro e y1 ⟨rfl, H1⟩; have K1 : Hid (Fm w [(w.heap.size, C, 29), (w.heap.size + 1, D, 40), (w.heap.size + 2, (dCs d), 50)] y1) := K0.out.below H1)
            | ((with_reducible refine at_load rtG w.heap.size C ?_ ?_ (.tmp 3) ?_ ?_ ?_ ?_); (first | exact K1.out.bx 0 _ _ _ rfl | exact K2.out.bx 0 _ _ _ rfl | exact K3.out.bx 0 _ _ _ rfl | exact K6.out.bx 0 _ _ _ rfl | exact Kb.out.bx 0 _ _ _ rfl); exact gC.out; kernel_rfl; rfl; rfl)
            | ((with_reducible refine at_load rtFn (w.heap.size + 1) D ?_ ?_ (.tmp 4) ?_ ?_ ?_ ?_); (first | exact K1.out.bx 1 _ _ _ rfl | exact K3.out.bx 1 _ _ _ rfl); exact gD.out; kernel_rfl; rfl; rfl)
            | ((with_reducible refine at_load rtFd (w.heap.size + 2) (dCs d) ?_ ?_ (.tmp 5) ?_ ?_ ?_ ?_); (first | exact K3.out.bx 2 _ _ _ rfl); exact gE.out; kernel_rfl; rfl; rfl)
            | (go_at_call 15; refine (vast_gl y1 C D g f (hg.out.below K1.out.low) (hf.out.below K1.out.low)).mono ?_; rintro e y2 ⟨rfl, H2⟩; have K2 : Hid (Fm w [(w.heap.size, C, 29), (w.heap.size + 1, D, 40), (w.heap.size + 2, (dCs d), 50)] y2) := K1.out.below H2; rw [hv.out])
            | (go_at_call 13; refine (rsame_any yb C1 C (stepG g f d).1 g Lb.out.lies (hg.out.below Kb.out.low) hb1.out hb2.out).mono ?_; rintro e yc ⟨rfl, Hc⟩; have Kc : Hid (Fm w [(w.heap.size, C, 29), (w.heap.size + 1, D, 40), (w.heap.size + 2, (dCs d), 50), (y4.heap.size, C1, 29), (y7.heap.size, C2, 29)] yc) := Kb.out.below Hc; rw [hsm.out])
            | (go_at_call 17; refine (A.out.ck ya C1 (stepG g f d).1 (A.out.t _ _ hw.out Ka.out.low) La.out.lies).mono ?_; rintro e yb ⟨rfl, Hb⟩; have Kb : Hid (Fm w [(w.heap.size, C, 29), (w.heap.size + 1, D, 40), (w.heap.size + 2, (dCs d), 50), (y4.heap.size, C1, 29), (y7.heap.size, C2, 29)] yb) := Ka.out.below Hb; have Lb : Hid (GO y3.heap.size yb C1 (stepG g f d).1) := La.out.below Hb; rw [hm3.out])
            | (go_at_call 17; refine (A.out.ck y9 C2 (tickG g) (A.out.t _ _ hw.out K9.out.low) J9.out.lies).mono ?_; rintro e ya ⟨rfl, Ha⟩; have Ka : Hid (Fm w [(w.heap.size, C, 29), (w.heap.size + 1, D, 40), (w.heap.size + 2, (dCs d), 50), (y4.heap.size, C1, 29), (y7.heap.size, C2, 29)] ya) := K9.out.below Ha; have La : Hid (GO y3.heap.size ya C1 (stepG g f d).1) := L9.out.below Ha; obtain ⟨s3, c3, e3⟩ := La.out.lies.size.2.2; have f3 := (Ka.out.bx 3 _ _ _ rfl).c 21 _ e3; clear e3; rw [hm2.out])
            | (go_at_call 17; refine (A.out.ck y2 C g (A.out.t _ _ hw.out K2.out.low) (hg.out.below K2.out.low)).mono ?_; rintro e y3 ⟨rfl, H3⟩; have K3 : Hid (Fm w [(w.heap.size, C, 29), (w.heap.size + 1, D, 40), (w.heap.size + 2, (dCs d), 50)] y3) := K2.out.below H3; rw [hm.out])
            | (go_at_call 22; refine (A.out.st y3 C g D f d (A.out.t _ _ hw.out K3.out.low) (hg.out.below K3.out.low) (hf.out.below K3.out.low) hd.out hs.out).mono ?_; rintro e y4 ⟨C1, rfl, J4, H4⟩; have K4 : Hid (Fm w [(w.heap.size, C, 29), (w.heap.size + 1, D, 40), (w.heap.size + 2, (dCs d), 50)] y4) := K3.out.below H4; have J4 : Hid (GO y3.heap.size y4 C1 (stepG g f d).1) := J4; rw [ho.out, he.out])
            | ((with_reducible refine gen_world (y4.alloc (.cells #[.int .u8 0, .int .u8 0, .int .u8 0, .int .u8 0, .int .u8 0, .int .u8 0, .int .u8 0, .int .u8 0, .int .u8 0, .int .u8 0, .int .u8 0, .int .u8 0, .int .u8 0, .int .u8 0, .int .u8 0, .int .u8 0, .int .u16 0, .int .u16 0, .slice none 0 0, .int .u8 0, .int .u8 0, .slice none 0 0, .slice none 0 0] 29)) (fun x => Fm w [(w.heap.size, C, 29), (w.heap.size + 1, D, 40), (w.heap.size + 2, (dCs d), 50), (y4.heap.size, gZ, 29)] x ∧ Below y4.heap.size y4 x) ?_ ?_); (constructor; (have := K4.out.new gZ 29; unfold gZ at this ⊢; exact this); exact below1 _ _); intro y5 K5)
            | ((with_reducible refine at_st rtG y4.heap.size gZ C1 ?_ ?_ ?_ ?_ (.tmp 9) (.tmp 27) ?_ ?_ ?_ ?_ ?_); exact K5.out.1.bx 3 _ _ _ rfl; rfl; exact J4.out.lies.size.1; exact J4.out.lies.size.2.1; rfl; rfl; rfl; rfl; intro y6 H6; have K6 : Hid (Fm w [(w.heap.size, C, 29), (w.heap.size + 1, D, 40), (w.heap.size + 2, (dCs d), 50), (y4.heap.size, C1, 29)] y6) := K5.out.1.put 3 _ _ _ _ rfl H6.out; have J6 : Hid (GO y3.heap.size y6 C1 (stepG g f d).1) := J4.out.below (K5.out.2.trans (H6.out.2.1 _ (Nat.le_refl _))))
            | (go_at_call 23; refine (A.out.tk y6 C g (A.out.t _ _ hw.out K6.out.low) (hg.out.below K6.out.low) hs2.out).mono ?_; rintro e y7 ⟨C2, rfl, J7, H7⟩; have K7 : Hid (Fm w [(w.heap.size, C, 29), (w.heap.size + 1, D, 40), (w.heap.size + 2, (dCs d), 50), (y4.heap.size, C1, 29)] y7) := K6.out.below H7; have J7 : Hid (GO y6.heap.size y7 C2 (tickG g)) := J7; have L7 : Hid (GO y3.heap.size y7 C1 (stepG g f d).1) := J6.out.below H7)
            | ((with_reducible refine gen_world (y7.alloc (.cells #[.int .u8 0, .int .u8 0, .int .u8 0, .int .u8 0, .int .u8 0, .int .u8 0, .int .u8 0, .int .u8 0, .int .u8 0, .int .u8 0, .int .u8 0, .int .u8 0, .int .u8 0, .int .u8 0, .int .u8 0, .int .u8 0, .int .u16 0, .int .u16 0, .slice none 0 0, .int .u8 0, .int .u8 0, .slice none 0 0, .slice none 0 0] 29)) (fun x => Fm w [(w.heap.size, C, 29), (w.heap.size + 1, D, 40), (w.heap.size + 2, (dCs d), 50), (y4.heap.size, C1, 29), (y7.heap.size, gZ, 29)] x ∧ Below y7.heap.size y7 x) ?_ ?_); (constructor; (have := K7.out.new gZ 29; unfold gZ at this ⊢; exact this); exact below1 _ _); intro y8 K8)
            | ((with_reducible refine at_st rtG y7.heap.size gZ C2 ?_ ?_ ?_ ?_ (.tmp 12) (.tmp 31) ?_ ?_ ?_ ?_ ?_); exact K8.out.1.bx 4 _ _ _ rfl; rfl; exact J7.out.lies.size.1; exact J7.out.lies.size.2.1; rfl; rfl; rfl; rfl; intro y9 H9; have K9 : Hid (Fm w [(w.heap.size, C, 29), (w.heap.size + 1, D, 40), (w.heap.size + 2, (dCs d), 50), (y4.heap.size, C1, 29), (y7.heap.size, C2, 29)] y9) := K8.out.1.put 4 _ _ _ _ rfl H9.out; have J9 : Hid (GO y6.heap.size y9 C2 (tickG g)) := J7.out.below (K8.out.2.trans (H9.out.2.1 _ (Nat.le_refl _))); have L9 : Hid (GO y3.heap.size y9 C1 (stepG g f d).1) := L7.out.below (K8.out.2.trans (H9.out.2.1 _ (Nat.le_refl _))); obtain ⟨s1, c1, e1⟩ := L9.out.lies.size.2.2; obtain ⟨s2, c2, e2⟩ := J9.out.lies.size.2.2; have f1 := (K9.out.bx 3 _ _ _ rfl).c 21 _ e1; have f2 := (K9.out.bx 4 _ _ _ rfl).c 21 _ e2; clear e1 e2)
            | ((with_reducible refine at_load rtG y7.heap.size C2 ?_ ?_ (.tmp 12) ?_ ?_ ?_ ?_); (first | exact K9.out.bx 4 _ _ _ rfl); exact J9.out.lies.size.1; kernel_rfl; rfl; rfl)
            | ((with_reducible refine at_load rtG y4.heap.size C1 ?_ ?_ (.tmp 9) ?_ ?_ ?_ ?_); (first | exact Ka.out.bx 3 _ _ _ rfl | exact Kb.out.bx 3 _ _ _ rfl); exact L9.out.lies.size.1; kernel_rfl; rfl; rfl))
          go_ret
          exact ⟨rfl, Kc.out.low⟩
        · have hsm : Hid (decide ((stepG g f d).1 = g) = true) := decide_eq_true (step_else g f d hm0 he0 ho1)
          obtain ⟨q, hq⟩ : ∃ q, (stepG g f d).2.1 = q := ⟨_, rfl⟩
          have ho : Hid ((stepG g f d).2.1 = q) := hq
          have q1 : ((q : Int) == 1) = false := by simp; omega
          clear hm0 hf0 he0 ho1 hq
          go_enter Try.func5, Try.ntmps5
          go_wp2_with (first
            | ((with_reducible refine gen_world (((w.alloc (.cells C 29)).alloc (.cells D 40)).alloc (.cells (dCs d) 50)) (Fm w [(w.heap.size, C, 29), (w.heap.size + 1, D, 40), (w.heap.size + 2, (dCs d), 50)]) ?_ ?_); exact Fm.three w _ _ _ _ _ _; intro y0 K0)
            | (go_at_call 8; refine (A.out.aw y0 (A.out.t _ _ hw.out K0.out.low)).mono ?_; rintro e y1 ⟨rfl, H1⟩; have K1 : Hid (Fm w [(w.heap.size, C, 29), (w.heap.size + 1, D, 40), (w.heap.size + 2, (dCs d), 50)] y1) := K0.out.below H1)
            | ((with_reducible refine at_load rtG w.heap.size C ?_ ?_ (.tmp 3) ?_ ?_ ?_ ?_); (first | exact K1.out.bx 0 _ _ _ rfl | exact K2.out.bx 0 _ _ _ rfl | exact K3.out.bx 0 _ _ _ rfl | exact K6.out.bx 0 _ _ _ rfl | exact Kb.out.bx 0 _ _ _ rfl); exact gC.out; kernel_rfl; rfl; rfl)
            | ((with_reducible refine at_load rtFn (w.heap.size + 1) D ?_ ?_ (.tmp 4) ?_ ?_ ?_ ?_); (first | exact K1.out.bx 1 _ _ _ rfl | exact K3.out.bx 1 _ _ _ rfl); exact gD.out; kernel_rfl; rfl; rfl)
            | ((with_reducible refine at_load rtFd (w.heap.size + 2) (dCs d) ?_ ?_ (.tmp 5) ?_ ?_ ?_ ?_); (first | exact K3.out.bx 2 _ _ _ rfl); exact gE.out; kernel_rfl; rfl; rfl)
            | (go_at_call 15; refine (vast_gl y1 C D g f (hg.out.below K1.out.low) (hf.out.below K1.out.low)).mono ?_; rintro e y2 ⟨rfl, H2⟩; have K2 : Hid (Fm w [(w.heap.size, C, 29), (w.heap.size + 1, D, 40), (w.heap.size + 2, (dCs d), 50)] y2) := K1.out.below H2; rw [hv.out])
            | (go_at_call 13; refine (rsame_any yb C1 C (stepG g f d).1 g Lb.out.lies (hg.out.below Kb.out.low) hb1.out hb2.out).mono ?_; rintro e yc ⟨rfl, Hc⟩; have Kc : Hid (Fm w [(w.heap.size, C, 29), (w.heap.size + 1, D, 40), (w.heap.size + 2, (dCs d), 50), (y4.heap.size, C1, 29), (y7.heap.size, C2, 29)] yc) := Kb.out.below Hc; rw [hsm.out])
            | (go_at_call 17; refine (A.out.ck ya C1 (stepG g f d).1 (A.out.t _ _ hw.out Ka.out.low) La.out.lies).mono ?_; rintro e yb ⟨rfl, Hb⟩; have Kb : Hid (Fm w [(w.heap.size, C, 29), (w.heap.size + 1, D, 40), (w.heap.size + 2, (dCs d), 50), (y4.heap.size, C1, 29), (y7.heap.size, C2, 29)] yb) := Ka.out.below Hb; have Lb : Hid (GO y3.heap.size yb C1 (stepG g f d).1) := La.out.below Hb; rw [hm3.out])
            | (go_at_call 17; refine (A.out.ck y9 C2 (tickG g) (A.out.t _ _ hw.out K9.out.low) J9.out.lies).mono ?_; rintro e ya ⟨rfl, Ha⟩; have Ka : Hid (Fm w [(w.heap.size, C, 29), (w.heap.size + 1, D, 40), (w.heap.size + 2, (dCs d), 50), (y4.heap.size, C1, 29), (y7.heap.size, C2, 29)] ya) := K9.out.below Ha; have La : Hid (GO y3.heap.size ya C1 (stepG g f d).1) := L9.out.below Ha; obtain ⟨s3, c3, e3⟩ := La.out.lies.size.2.2; have f3 := (Ka.out.bx 3 _ _ _ rfl).c 21 _ e3; clear e3; rw [hm2.out])
            | (go_at_call 17; refine (A.out.ck y2 C g (A.out.t _ _ hw.out K2.out.low) (hg.out.below K2.out.low)).mono ?_; rintro e y3 ⟨rfl, H3⟩; have K3 : Hid (Fm w [(w.heap.size, C, 29), (w.heap.size + 1, D, 40), (w.heap.size + 2, (dCs d), 50)] y3) := K2.out.below H3; rw [hm.out])
            | (go_at_call 22; refine (A.out.st y3 C g D f d (A.out.t _ _ hw.out K3.out.low) (hg.out.below K3.out.low) (hf.out.below K3.out.low) hd.out hs.out).mono ?_; rintro e y4 ⟨C1, rfl, J4, H4⟩; have K4 : Hid (Fm w [(w.heap.size, C, 29), (w.heap.size + 1, D, 40), (w.heap.size + 2, (dCs d), 50)] y4) := K3.out.below H4; have J4 : Hid (GO y3.heap.size y4 C1 (stepG g f d).1) := J4; rw [ho.out, he.out])
            | ((with_reducible refine gen_world (y4.alloc (.cells #[.int .u8 0, .int .u8 0, .int .u8 0, .int .u8 0, .int .u8 0, .int .u8 0, .int .u8 0, .int .u8 0, .int .u8 0, .int .u8 0, .int .u8 0, .int .u8 0, .int .u8 0, .int .u8 0, .int .u8 0, .int .u8 0, .int .u16 0, .int .u16 0, .slice none 0 0, .int .u8 0, .int .u8 0, .slice none 0 0, .slice none 0 0] 29)) (fun x => Fm w [(w.heap.size, C, 29), (w.heap.size + 1, D, 40), (w.heap.size + 2, (dCs d), 50), (y4.heap.size, gZ, 29)] x ∧ Below y4.heap.size y4 x) ?_ ?_); (constructor; (have := K4.out.new gZ 29; unfold gZ at this ⊢; exact this); exact below1 _ _); intro y5 K5)
            | ((with_reducible refine at_st rtG y4.heap.size gZ C1 ?_ ?_ ?_ ?_ (.tmp 9) (.tmp 27) ?_ ?_ ?_ ?_ ?_); exact K5.out.1.bx 3 _ _ _ rfl; rfl; exact J4.out.lies.size.1; exact J4.out.lies.size.2.1; rfl; rfl; rfl; rfl; intro y6 H6; have K6 : Hid (Fm w [(w.heap.size, C, 29), (w.heap.size + 1, D, 40), (w.heap.size + 2, (dCs d), 50), (y4.heap.size, C1, 29)] y6) := K5.out.1.put 3 _ _ _ _ rfl H6.out; have J6 : Hid (GO y3.heap.size y6 C1 (stepG g f d).1) := J4.out.below (K5.out.2.trans (H6.out.2.1 _ (Nat.le_refl _))))
            | (go_at_call 23; refine (A.out.tk y6 C g (A.out.t _ _ hw.out K6.out.low) (hg.out.below K6.out.low) hs2.out).mono ?_; rintro e y7 ⟨C2, rfl, J7, H7⟩; have K7 : Hid (Fm w [(w.heap.size, C, 29), (w.heap.size + 1, D, 40), (w.heap.size + 2, (dCs d), 50), (y4.heap.size, C1, 29)] y7) := K6.out.below H7; have J7 : Hid (GO y6.heap.size y7 C2 (tickG g)) := J7; have L7 : Hid (GO y3.heap.size y7 C1 (stepG g f d).1) := J6.out.below H7)
            | ((with_reducible refine gen_world (y7.alloc (.cells #[.int .u8 0, .int .u8 0, .int .u8 0, .int .u8 0, .int .u8 0, .int .u8 0, .int .u8 0, .int .u8 0, .int .u8 0, .int .u8 0, .int .u8 0, .int .u8 0, .int .u8 0, .int .u8 0, .int .u8 0, .int .u8 0, .int .u16 0, .int .u16 0, .slice none 0 0, .int .u8 0, .int .u8 0, .slice none 0 0, .slice none 0 0] 29)) (fun x => Fm w [(w.heap.size, C, 29), (w.heap.size + 1, D, 40), (w.heap.size + 2, (dCs d), 50), (y4.heap.size, C1, 29), (y7.heap.size, gZ, 29)] x ∧ Below y7.heap.size y7 x) ?_ ?_); (constructor; (have := K7.out.new gZ 29; unfold gZ at this ⊢; exact this); exact below1 _ _); intro y8 K8)
            | ((with_reducible refine at_st rtG y7.heap.size gZ C2 ?_ ?_ ?_ ?_ (.tmp 12) (.tmp 31) ?_ ?_ ?_ ?_ ?_); exact K8.out.1.bx 4 _ _ _ rfl; rfl; exact J7.out.lies.size.1; exact J7.out.lies.size.2.1; rfl; rfl; rfl; rfl; intro y9 H9; have K9 : Hid (Fm w [(w.heap.size, C, 29), (w.heap.size + 1, D, 40), (w.heap.size + 2, (dCs d), 50), (y4.heap.size, C1, 29), (y7.heap.size, C2, 29)] y9) := K8.out.1.put 4 _ _ _ _ rfl H9.out; have J9 : Hid (GO y6.heap.size y9 C2 (tickG g)) := J7.out.below (K8.out.2.trans (H9.out.2.1 _ (Nat.le_refl _))); have L9 : Hid (GO y3.heap.size y9 C1 (stepG g f d).1) := L7.out.below (K8.out.2.trans (H9.out.2.1 _ (Nat.le_refl _))); obtain ⟨s1, c1, e1⟩ := L9.out.lies.size.2.2; obtain ⟨s2, c2, e2⟩ := J9.out.lies.size.2.2; have f1 := (K9.out.bx 3 _ _ _ rfl).c 21 _ e1; have f2 := (K9.out.bx 4 _ _ _ rfl).c 21 _ e2; clear e1 e2)
            | ((with_reducible refine at_load rtG y7.heap.size C2 ?_ ?_ (.tmp 12) ?_ ?_ ?_ ?_); (first | exact K9.out.bx 4 _ _ _ rfl); exact J9.out.lies.size.1; kernel_rfl; rfl; rfl)
            | ((with_reducible refine at_load rtG y4.heap.size C1 ?_ ?_ (.tmp 9) ?_ ?_ ?_ ?_); (first | exact Ka.out.bx 3 _ _ _ rfl | exact Kb.out.bx 3 _ _ _ rfl); exact L9.out.lies.size.1; kernel_rfl; rfl; rfl))
          go_ret
          exact ⟨rfl, Kc.out.low⟩
  · have hv : Hid (vasG g.st.length g.pg.length g.me.length f.by_.length = true) := hv0
    clear hv0
    go_enter Try.func5, Try.ntmps5
    go_wp2_with (first
      | ((with_reducible refine gen_world (((w.alloc (.cells C 29)).alloc (.cells D 40)).alloc (.cells (dCs d) 50)) (Fm w [(w.heap.size, C, 29), (w.heap.size + 1, D, 40), (w.heap.size + 2, (dCs d), 50)]) ?_ ?_); exact Fm.three w _ _ _ _ _ _; intro y0 K0)
      | (go_at_call 8; refine (A.out.aw y0 (A.out.t _ _ hw.out K0.out.low)).mono ?_; rintro e y1 ⟨rfl, H1⟩; have K1 : Hid (Fm w [(w.heap.size, C, 29), (w.heap.size + 1, D, 40), (w.heap.size + 2, (dCs d), 50)] y1) := K0.out.below H1)
      | ((with_reducible refine at_load rtG w.heap.size C ?_ ?_ (.tmp 3) ?_ ?_ ?_ ?_); (first | exact K1.out.bx 0 _ _ _ rfl | exact K2.out.bx 0 _ _ _ rfl | exact K3.out.bx 0 _ _ _ rfl | exact K6.out.bx 0 _ _ _ rfl | exact Kb.out.bx 0 _ _ _ rfl); exact gC.out; kernel_rfl; rfl; rfl)
      | ((with_reducible refine at_load rtFn (w.heap.size + 1) D ?_ ?_ (.tmp 4) ?_ ?_ ?_ ?_); (first | exact K1.out.bx 1 _ _ _ rfl | exact K3.out.bx 1 _ _ _ rfl); exact gD.out; kernel_rfl; rfl; rfl)
      | ((with_reducible refine at_load rtFd (w.heap.size + 2) (dCs d) ?_ ?_ (.tmp 5) ?_ ?_ ?_ ?_); (first | exact K3.out.bx 2 _ _ _ rfl); exact gE.out; kernel_rfl; rfl; rfl)
      | (go_at_call 15; refine (vast_gl y1 C D g f (hg.out.below K1.out.low) (hf.out.below K1.out.low)).mono ?_; rintro e y2 ⟨rfl, H2⟩; have K2 : Hid (Fm w [(w.heap.size, C, 29), (w.heap.size + 1, D, 40), (w.heap.size + 2, (dCs d), 50)] y2) := K1.out.below H2; rw [hv.out]))
    go_ret
    exact ⟨rfl, K2.out.low⟩
end Go.Proofs.Ytilflcffcocncaa
