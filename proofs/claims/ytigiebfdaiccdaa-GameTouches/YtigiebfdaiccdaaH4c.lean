/- GameTouches: an order that is done changes nothing but what its row names. -/
import Derived.Test.YtigiebfdaiccdaaH4b
import Derived.Deep.CutRange
namespace Go.Proofs.Ytigiebfdaiccdaa
open Go Go.RowKit Go.Shelf
set_option linter.unusedVariables false
set_option maxHeartbeats 1000000
set_option maxRecDepth 20000

theorem GO.pageT {B : Nat} {w : World} {C : Array Value} {g : Gm} (h : GO B w C g) : ∃ s c, C[21]? = some (.slice s g.pg.length c) ∧ ∀ y, Below w.heap.size w y → (convert 22 9 (.slice s g.pg.length c)).run Try.prog y = .ok (.string (sB g.pg)) y := by
  obtain ⟨⟨sS, sP, sM, cS, cP, cM, rfl, h1, h2, h3⟩, ok⟩ := h.lies
  exact ⟨sP, cP, rfl, fun y hy => lb_conv (h2.below hy) cP⟩
theorem GL.pageT {w : World} {C : Array Value} {g : Gm} (h : GL w C g) : ∃ s c, C[21]? = some (.slice s g.pg.length c) ∧ ∀ y, Below w.heap.size w y → (convert 22 9 (.slice s g.pg.length c)).run Try.prog y = .ok (.string (sB g.pg)) y := by
  obtain ⟨⟨sS, sP, sM, cS, cP, cM, rfl, h1, h2, h3⟩, ok⟩ := h
  exact ⟨sP, cP, rfl, fun y hy => lb_conv (h2.below hy) cP⟩
theorem GL.vT {w : World} {C : Array Value} {g : Gm} (h : GL w C g) (x : Nat) (hx : x < 16) : C[x]? = some (.int .u8 ((g.v.getD x 0).toNat : Int)) := by
  obtain ⟨⟨sS, sP, sM, cS, cP, cM, rfl, _⟩, _⟩ := h
  rcases (show x = 0 ∨ x = 1 ∨ x = 2 ∨ x = 3 ∨ x = 4 ∨ x = 5 ∨ x = 6 ∨ x = 7 ∨ x = 8 ∨ x = 9 ∨ x = 10 ∨ x = 11 ∨ x = 12 ∨ x = 13 ∨ x = 14 ∨ x = 15 by omega) with rfl | rfl | rfl | rfl | rfl | rfl | rfl | rfl | rfl | rfl | rfl | rfl | rfl | rfl | rfl | rfl <;> rfl
theorem GL.restT {w : World} {C : Array Value} {g : Gm} (h : GL w C g) : C[16]? = some (.int .u16 (g.i : Int)) ∧ C[17]? = some (.int .u16 (g.pc : Int)) ∧ C[19]? = some (.int .u8 (g.de.toNat : Int)) ∧ C[20]? = some (.int .u8 (g.so.toNat : Int)) := by
  obtain ⟨⟨sS, sP, sM, cS, cP, cM, rfl, _⟩, _⟩ := h
  exact ⟨rfl, rfl, rfl, rfl⟩
theorem GL.meT {w : World} {C : Array Value} {g : Gm} (h : GL w C g) : ∃ s c, C[22]? = some (.slice s g.me.length c) ∧ LB w s g.me := by
  obtain ⟨⟨sS, sP, sM, cS, cP, cM, rfl, h1, h2, h3⟩, ok⟩ := h
  exact ⟨sM, cM, rfl, h3⟩
theorem GL.stT {w : World} {C : Array Value} {g : Gm} (h : GL w C g) : ∃ s c, C[18]? = some (.slice s g.st.length c) ∧ LW w s g.st := by
  obtain ⟨⟨sS, sP, sM, cS, cP, cM, rfl, h1, h2, h3⟩, ok⟩ := h
  exact ⟨sS, cS, rfl, h1⟩
/-- What an order that was done leaves. -/
structure Tch (g n : Gm) (o : Od) : Prop where
  v : ∀ k, tchG o k = false → n.v.getD k 0 = g.v.getD k 0
  ml : n.me.length = 3232
  pl : n.pg.length = 256
  me : ∀ k, lieG g o (512 + k) = false → n.me.getD k 0 = g.me.getD k 0
  pg : o.op ≠ 2 → o.op ≠ 20 → n.pg = g.pg
  de : o.op ≠ 25 → n.de = g.de
  so : o.op ≠ 26 → n.so = g.so
  i : o.op ≠ 17 → o.op ≠ 27 → o.op ≠ 28 → o.op ≠ 30 → o.op ≠ 31 → n.i = g.i
  sl : n.st.length = clsG g o
  st : ∀ k, k < clsG g o → k < g.st.length → n.st.getD k 0 = g.st.getD k 0
  pc : wntG g o n.pc = true
  l12 : clsG g o ≤ 12
theorem tch_of {g : Gm} {f : Fo} {d : Fd} {OD : Od} {s1 : Gm} (hnx : nextG g = (OD, 1)) (hs : stepG g f d = (s1, 1, 0)) : Tch g s1 OD := by
  have hm := (step_ok (g := g) (f := f) (d := d) (by rw [hs])).1
  have hdn := next_done (g := g) (by rw [hnx])
  have h1 : (nextG g).2 = 1 := by rw [hnx]
  have h0 : (nextG g).1 = OD := by rw [hnx]
  unfold stepG at hs
  rw [if_pos hm] at hs
  split at hs
  · try rw [if_pos h1] at hs
    split at hs
    · rename_i hd
      rw [h0] at hs hd
      injection hs with hs _
      subst hs
      have hmo : g.on.may = true := hm
      have hmm := may_iff.1 (do_may g.on OD f d hmo)
      have hcl := do_calls g.on OD f d hd
      have hce : clsG g.on OD = clsG g OD := rfl
      rw [hce] at hcl
      refine ⟨fun k h => do_v g.on OD f d k h, hmm.2.1, hmm.1, fun k h => do_me g.on OD f d k h, do_pg g.on OD f d, do_de g.on OD f d, do_so g.on OD f d, do_i g.on OD f d, hcl, fun k h h2 => do_st g.on OD f d k h h2, do_pc g OD f d hd, by have := hmm.2.2; omega⟩
    · rename_i hd
      injection hs with _ hs
      injection hs with hs _
      exact absurd (by rw [hs]) hd
  · cases hs

theorem touches_vast (w : World) (C D : Array Value) (g : Gm) (f : Fo) (d : Fd) (hg : Hid (GL w C g)) (hf : Hid (FL w D f)) (hd : Hid d.Ok) (hv : Hid (vasG g.st.length g.pg.length g.me.length f.by_.length = true)) :
    Calls Try.prog 5 #[.agg C, .agg D, .agg (dCs d)] w fun e w' => e = .returned (.bool true) ∧ Below w.heap.size w w' := by
  have gC : Hid (C.size = 23) := hg.out.size.1
  have gD : Hid (D.size = 18) := hf.out.size
  go_enter Try.func5, Try.ntmps5
  go_wp2_with (first
    | (go_at_call 13; refine (vast_gl y1 C D g f (hg.out.below K1.out.1.low) (hf.out.below K1.out.1.low)).mono ?_; rintro e y2 ⟨rfl, H⟩; have K2 : Hid (Fm w [(w.heap.size, C, 29), (w.heap.size + 1, D, 40), (w.heap.size + 2, (dCs d), 50)] y2 ∧ True) := ⟨K1.out.1.below H, trivial⟩; rw [hv.out]; clear H)
    | (go_at_call 6; refine (awake_any y0).mono ?_; rintro e y1 ⟨rfl, H⟩; have K1 : Hid (Fm w [(w.heap.size, C, 29), (w.heap.size + 1, D, 40), (w.heap.size + 2, (dCs d), 50)] y1 ∧ True) := ⟨K0.out.1.below H, trivial⟩; clear H)
    | ((with_reducible refine gen_world (((w.alloc (.cells C 29)).alloc (.cells D 40)).alloc (.cells (dCs d) 50)) (fun y => Fm w [(w.heap.size, C, 29), (w.heap.size + 1, D, 40), (w.heap.size + 2, (dCs d), 50)] y ∧ True) ?_ ?_); (exact ⟨Fm.three w _ _ _ _ _ _ , trivial⟩); intro y0 K0)
    | ((with_reducible refine at_load rtG (w.heap.size) C ?_ ?_ (.tmp 3) ?_ ?_ ?_ ?_); (first | exact K1.out.1.bx 0 _ _ _ rfl); (first | exact gC.out); kernel_rfl; rfl; rfl)
    | ((with_reducible refine at_load rtFn (w.heap.size + 1) D ?_ ?_ (.tmp 4) ?_ ?_ ?_ ?_); (first | exact K1.out.1.bx 1 _ _ _ rfl); (first | exact gD.out); kernel_rfl; rfl; rfl))
  go_ret
  exact ⟨rfl, K2.out.1.low⟩

theorem touches_bad (w : World) (C D : Array Value) (g : Gm) (f : Fo) (d : Fd) (hg : Hid (GL w C g)) (hf : Hid (FL w D f)) (hd : Hid d.Ok) (hv : Hid (vasG g.st.length g.pg.length g.me.length f.by_.length = false)) (hm : Hid (g.may = false)) :
    Calls Try.prog 5 #[.agg C, .agg D, .agg (dCs d)] w fun e w' => e = .returned (.bool true) ∧ Below w.heap.size w w' := by
  have gC : Hid (C.size = 23) := hg.out.size.1
  have gD : Hid (D.size = 18) := hf.out.size
  go_enter Try.func5, Try.ntmps5
  go_wp2_with (first
    | (go_at_call 18; refine (rcheck_gl y2 C g (hg.out.below K2.out.1.low)).mono ?_; rintro e y3 ⟨rfl, H⟩; have K3 : Hid (Fm w [(w.heap.size, C, 29), (w.heap.size + 1, D, 40), (w.heap.size + 2, (dCs d), 50)] y3 ∧ True) := ⟨K2.out.1.below H, trivial⟩; rw [hm.out]; clear H)
    | (go_at_call 13; refine (vast_gl y1 C D g f (hg.out.below K1.out.1.low) (hf.out.below K1.out.1.low)).mono ?_; rintro e y2 ⟨rfl, H⟩; have K2 : Hid (Fm w [(w.heap.size, C, 29), (w.heap.size + 1, D, 40), (w.heap.size + 2, (dCs d), 50)] y2 ∧ True) := ⟨K1.out.1.below H, trivial⟩; rw [hv.out]; clear H)
    | (go_at_call 6; refine (awake_any y0).mono ?_; rintro e y1 ⟨rfl, H⟩; have K1 : Hid (Fm w [(w.heap.size, C, 29), (w.heap.size + 1, D, 40), (w.heap.size + 2, (dCs d), 50)] y1 ∧ True) := ⟨K0.out.1.below H, trivial⟩; clear H)
    | ((with_reducible refine gen_world (((w.alloc (.cells C 29)).alloc (.cells D 40)).alloc (.cells (dCs d) 50)) (fun y => Fm w [(w.heap.size, C, 29), (w.heap.size + 1, D, 40), (w.heap.size + 2, (dCs d), 50)] y ∧ True) ?_ ?_); (exact ⟨Fm.three w _ _ _ _ _ _ , trivial⟩); intro y0 K0)
    | ((with_reducible refine at_load rtG (w.heap.size) C ?_ ?_ (.tmp 3) ?_ ?_ ?_ ?_); (first | exact K2.out.1.bx 0 _ _ _ rfl | exact K1.out.1.bx 0 _ _ _ rfl); (first | exact gC.out); kernel_rfl; rfl; rfl)
    | ((with_reducible refine at_load rtFn (w.heap.size + 1) D ?_ ?_ (.tmp 4) ?_ ?_ ?_ ?_); (first | exact K1.out.1.bx 1 _ _ _ rfl); (first | exact gD.out); kernel_rfl; rfl; rfl))
  go_ret
  exact ⟨rfl, K3.out.1.low⟩

theorem touches_err1 (w : World) (C D : Array Value) (g : Gm) (f : Fo) (d : Fd) (hg : Hid (GL w C g)) (hf : Hid (FL w D f)) (hd : Hid d.Ok) (hv : Hid (vasG g.st.length g.pg.length g.me.length f.by_.length = false)) (hm : Hid (g.may = true)) (hs : Hid (smaG g f)) (OD : Od) (nx : Nat) (hnx : Hid (nextG g = (OD, nx))) (s1 : Gm) (o1 e1 : Nat) (hs1 : Hid (stepG g f d = (s1, o1, e1))) (he : e1 = 1) (hx : nx = 1) :
    Calls Try.prog 5 #[.agg C, .agg D, .agg (dCs d)] w fun e w' => e = .returned (.bool true) ∧ Below w.heap.size w w' := by
  have gC : Hid (C.size = 23) := hg.out.size.1
  have gD : Hid (D.size = 18) := hf.out.size
  have q1 : ((e1 : Int) != 0) = true := by simp; omega
  have q2 : ((e1 : Int) == 1) = true := by simp; omega
  have q3 : ((e1 : Int) == 0) = false := by simp; omega
  have q4 : ((nx : Int) != 1) = false := by simp; omega
  have q5 : ((nx : Int) == 1) = true := by simp; omega
  clear he hx
  go_enter Try.func5, Try.ntmps5
  go_wp2_with (first
    | ((with_reducible refine at_st rtG y7.heap.size #[.int .u8 0, .int .u8 0, .int .u8 0, .int .u8 0, .int .u8 0, .int .u8 0, .int .u8 0, .int .u8 0, .int .u8 0, .int .u8 0, .int .u8 0, .int .u8 0, .int .u8 0, .int .u8 0, .int .u8 0, .int .u8 0, .int .u16 0, .int .u16 0, .slice none 0 0, .int .u8 0, .int .u8 0, .slice none 0 0, .slice none 0 0] C1 ?_ ?_ ?_ ?_ (.tmp 11) (.tmp 44) ?_ ?_ ?_ ?_ ?_); exact K8.out.1.bx 4 _ _ _ rfl; rfl; exact (K8.out.2.1).lies.size.1; exact (K8.out.2.1).lies.size.2.1; rfl; rfl; rfl; rfl; intro y9 H9; have K9 : Hid (Fm w [(w.heap.size, C, 29), (w.heap.size + 1, D, 40), (w.heap.size + 2, (dCs d), 50), (y4.heap.size, (o6 OD), 45), (y7.heap.size, C1, 29)] y9 ∧ GO w.heap.size y9 C1 s1 ∧ True) := ⟨K8.out.1.put 4 _ _ _ _ rfl H9.out, (K8.out.2.1).offT (K8.out.1.bx 4 _ _ _ rfl) (by decide) (by decide) H9.out.2.2, trivial⟩; clear H9 K8)
    | ((with_reducible refine gen_world (y7.alloc (.cells #[.int .u8 0, .int .u8 0, .int .u8 0, .int .u8 0, .int .u8 0, .int .u8 0, .int .u8 0, .int .u8 0, .int .u8 0, .int .u8 0, .int .u8 0, .int .u8 0, .int .u8 0, .int .u8 0, .int .u8 0, .int .u8 0, .int .u16 0, .int .u16 0, .slice none 0 0, .int .u8 0, .int .u8 0, .slice none 0 0, .slice none 0 0] 29)) (fun y => Fm w [(w.heap.size, C, 29), (w.heap.size + 1, D, 40), (w.heap.size + 2, (dCs d), 50), (y4.heap.size, (o6 OD), 45), (y7.heap.size, #[.int .u8 0, .int .u8 0, .int .u8 0, .int .u8 0, .int .u8 0, .int .u8 0, .int .u8 0, .int .u8 0, .int .u8 0, .int .u8 0, .int .u8 0, .int .u8 0, .int .u8 0, .int .u8 0, .int .u8 0, .int .u8 0, .int .u16 0, .int .u16 0, .slice none 0 0, .int .u8 0, .int .u8 0, .slice none 0 0, .slice none 0 0], 29)] y ∧ GO w.heap.size y C1 s1 ∧ True) ?_ ?_); (exact ⟨K7.out.1.new _ _, (K7.out.2.1).below (below1 y7 _), trivial⟩); intro y8 K8)
    | (go_at_call 20; refine (step_any y6 C D g f d (hg.out.below K6.out.1.low) (hf.out.below K6.out.1.low) hd.out hs.out).mono ?_; rintro e y7 ⟨C1, rfl, J, H⟩; have K7 : Hid (Fm w [(w.heap.size, C, 29), (w.heap.size + 1, D, 40), (w.heap.size + 2, (dCs d), 50), (y4.heap.size, (o6 OD), 45)] y7 ∧ GO w.heap.size y7 C1 s1 ∧ True) := ⟨K6.out.1.below H, (by have h := J; simp only [hs1.out] at h; exact h.weak K6.out.1.low.size), trivial⟩; (simp only [hs1.out]); clear H J)
    | ((with_reducible refine at_st rtO y4.heap.size #[.int .u8 0, .int .u8 0, .int .u8 0, .int .u8 0, .int .u8 0, .int .u16 0] (o6 OD) ?_ ?_ ?_ ?_ (.tmp 9) (.tmp 37) ?_ ?_ ?_ ?_ ?_); exact K5.out.1.bx 3 _ _ _ rfl; rfl; rfl; exact o6_one OD; rfl; rfl; rfl; rfl; intro y6 H6; have K6 : Hid (Fm w [(w.heap.size, C, 29), (w.heap.size + 1, D, 40), (w.heap.size + 2, (dCs d), 50), (y4.heap.size, (o6 OD), 45)] y6 ∧ True) := ⟨K5.out.1.put 3 _ _ _ _ rfl H6.out, trivial⟩; clear H6 K5)
    | ((with_reducible refine gen_world (y4.alloc (.cells #[.int .u8 0, .int .u8 0, .int .u8 0, .int .u8 0, .int .u8 0, .int .u16 0] 45)) (fun y => Fm w [(w.heap.size, C, 29), (w.heap.size + 1, D, 40), (w.heap.size + 2, (dCs d), 50), (y4.heap.size, #[.int .u8 0, .int .u8 0, .int .u8 0, .int .u8 0, .int .u8 0, .int .u16 0], 45)] y ∧ True) ?_ ?_); (exact ⟨K4.out.1.new _ _, trivial⟩); intro y5 K5)
    | (go_at_call 16; refine (next_any y3 C g (hg.out.below K3.out.1.low)).mono ?_; rintro e y4 ⟨rfl, H⟩; have K4 : Hid (Fm w [(w.heap.size, C, 29), (w.heap.size + 1, D, 40), (w.heap.size + 2, (dCs d), 50)] y4 ∧ True) := ⟨K3.out.1.below H, trivial⟩; (simp only [hnx.out]); clear H)
    | (go_at_call 18; refine (rcheck_gl y2 C g (hg.out.below K2.out.1.low)).mono ?_; rintro e y3 ⟨rfl, H⟩; have K3 : Hid (Fm w [(w.heap.size, C, 29), (w.heap.size + 1, D, 40), (w.heap.size + 2, (dCs d), 50)] y3 ∧ True) := ⟨K2.out.1.below H, trivial⟩; rw [hm.out]; clear H)
    | (go_at_call 13; refine (vast_gl y1 C D g f (hg.out.below K1.out.1.low) (hf.out.below K1.out.1.low)).mono ?_; rintro e y2 ⟨rfl, H⟩; have K2 : Hid (Fm w [(w.heap.size, C, 29), (w.heap.size + 1, D, 40), (w.heap.size + 2, (dCs d), 50)] y2 ∧ True) := ⟨K1.out.1.below H, trivial⟩; rw [hv.out]; clear H)
    | (go_at_call 6; refine (awake_any y0).mono ?_; rintro e y1 ⟨rfl, H⟩; have K1 : Hid (Fm w [(w.heap.size, C, 29), (w.heap.size + 1, D, 40), (w.heap.size + 2, (dCs d), 50)] y1 ∧ True) := ⟨K0.out.1.below H, trivial⟩; clear H)
    | ((with_reducible refine gen_world (((w.alloc (.cells C 29)).alloc (.cells D 40)).alloc (.cells (dCs d) 50)) (fun y => Fm w [(w.heap.size, C, 29), (w.heap.size + 1, D, 40), (w.heap.size + 2, (dCs d), 50)] y ∧ True) ?_ ?_); (exact ⟨Fm.three w _ _ _ _ _ _ , trivial⟩); intro y0 K0)
    | ((with_reducible refine at_load rtG (w.heap.size) C ?_ ?_ (.tmp 3) ?_ ?_ ?_ ?_); (first | exact K6.out.1.bx 0 _ _ _ rfl | exact K3.out.1.bx 0 _ _ _ rfl | exact K2.out.1.bx 0 _ _ _ rfl | exact K1.out.1.bx 0 _ _ _ rfl); (first | exact gC.out); kernel_rfl; rfl; rfl)
    | ((with_reducible refine at_load rtFn (w.heap.size + 1) D ?_ ?_ (.tmp 4) ?_ ?_ ?_ ?_); (first | exact K6.out.1.bx 1 _ _ _ rfl | exact K1.out.1.bx 1 _ _ _ rfl); (first | exact gD.out); kernel_rfl; rfl; rfl)
    | ((with_reducible refine at_load rtFd (w.heap.size + 2) (dCs d) ?_ ?_ (.tmp 5) ?_ ?_ ?_ ?_); (first | exact K6.out.1.bx 2 _ _ _ rfl); (first | rfl); kernel_rfl; rfl; rfl))
  go_ret
  exact ⟨rfl, K9.out.1.low⟩

theorem touches_err2 (w : World) (C D : Array Value) (g : Gm) (f : Fo) (d : Fd) (hg : Hid (GL w C g)) (hf : Hid (FL w D f)) (hd : Hid d.Ok) (hv : Hid (vasG g.st.length g.pg.length g.me.length f.by_.length = false)) (hm : Hid (g.may = true)) (hs : Hid (smaG g f)) (OD : Od) (nx : Nat) (hnx : Hid (nextG g = (OD, nx))) (s1 : Gm) (o1 e1 : Nat) (hs1 : Hid (stepG g f d = (s1, o1, e1))) (he : e1 = 1) (hx : nx ≠ 1) :
    Calls Try.prog 5 #[.agg C, .agg D, .agg (dCs d)] w fun e w' => e = .returned (.bool true) ∧ Below w.heap.size w w' := by
  have gC : Hid (C.size = 23) := hg.out.size.1
  have gD : Hid (D.size = 18) := hf.out.size
  have q1 : ((e1 : Int) != 0) = true := by simp; omega
  have q2 : ((e1 : Int) == 1) = true := by simp; omega
  have q3 : ((e1 : Int) == 0) = false := by simp; omega
  have q4 : ((nx : Int) != 1) = true := by simp; omega
  have q5 : ((nx : Int) == 1) = false := by simp; omega
  clear he hx
  go_enter Try.func5, Try.ntmps5
  go_wp2_with (first
    | ((with_reducible refine at_st rtG y7.heap.size #[.int .u8 0, .int .u8 0, .int .u8 0, .int .u8 0, .int .u8 0, .int .u8 0, .int .u8 0, .int .u8 0, .int .u8 0, .int .u8 0, .int .u8 0, .int .u8 0, .int .u8 0, .int .u8 0, .int .u8 0, .int .u8 0, .int .u16 0, .int .u16 0, .slice none 0 0, .int .u8 0, .int .u8 0, .slice none 0 0, .slice none 0 0] C1 ?_ ?_ ?_ ?_ (.tmp 11) (.tmp 44) ?_ ?_ ?_ ?_ ?_); exact K8.out.1.bx 4 _ _ _ rfl; rfl; exact (K8.out.2.1).lies.size.1; exact (K8.out.2.1).lies.size.2.1; rfl; rfl; rfl; rfl; intro y9 H9; have K9 : Hid (Fm w [(w.heap.size, C, 29), (w.heap.size + 1, D, 40), (w.heap.size + 2, (dCs d), 50), (y4.heap.size, (o6 OD), 45), (y7.heap.size, C1, 29)] y9 ∧ GO w.heap.size y9 C1 s1 ∧ True) := ⟨K8.out.1.put 4 _ _ _ _ rfl H9.out, (K8.out.2.1).offT (K8.out.1.bx 4 _ _ _ rfl) (by decide) (by decide) H9.out.2.2, trivial⟩; clear H9 K8)
    | ((with_reducible refine gen_world (y7.alloc (.cells #[.int .u8 0, .int .u8 0, .int .u8 0, .int .u8 0, .int .u8 0, .int .u8 0, .int .u8 0, .int .u8 0, .int .u8 0, .int .u8 0, .int .u8 0, .int .u8 0, .int .u8 0, .int .u8 0, .int .u8 0, .int .u8 0, .int .u16 0, .int .u16 0, .slice none 0 0, .int .u8 0, .int .u8 0, .slice none 0 0, .slice none 0 0] 29)) (fun y => Fm w [(w.heap.size, C, 29), (w.heap.size + 1, D, 40), (w.heap.size + 2, (dCs d), 50), (y4.heap.size, (o6 OD), 45), (y7.heap.size, #[.int .u8 0, .int .u8 0, .int .u8 0, .int .u8 0, .int .u8 0, .int .u8 0, .int .u8 0, .int .u8 0, .int .u8 0, .int .u8 0, .int .u8 0, .int .u8 0, .int .u8 0, .int .u8 0, .int .u8 0, .int .u8 0, .int .u16 0, .int .u16 0, .slice none 0 0, .int .u8 0, .int .u8 0, .slice none 0 0, .slice none 0 0], 29)] y ∧ GO w.heap.size y C1 s1 ∧ True) ?_ ?_); (exact ⟨K7.out.1.new _ _, (K7.out.2.1).below (below1 y7 _), trivial⟩); intro y8 K8)
    | (go_at_call 20; refine (step_any y6 C D g f d (hg.out.below K6.out.1.low) (hf.out.below K6.out.1.low) hd.out hs.out).mono ?_; rintro e y7 ⟨C1, rfl, J, H⟩; have K7 : Hid (Fm w [(w.heap.size, C, 29), (w.heap.size + 1, D, 40), (w.heap.size + 2, (dCs d), 50), (y4.heap.size, (o6 OD), 45)] y7 ∧ GO w.heap.size y7 C1 s1 ∧ True) := ⟨K6.out.1.below H, (by have h := J; simp only [hs1.out] at h; exact h.weak K6.out.1.low.size), trivial⟩; (simp only [hs1.out]); clear H J)
    | ((with_reducible refine at_st rtO y4.heap.size #[.int .u8 0, .int .u8 0, .int .u8 0, .int .u8 0, .int .u8 0, .int .u16 0] (o6 OD) ?_ ?_ ?_ ?_ (.tmp 9) (.tmp 37) ?_ ?_ ?_ ?_ ?_); exact K5.out.1.bx 3 _ _ _ rfl; rfl; rfl; exact o6_one OD; rfl; rfl; rfl; rfl; intro y6 H6; have K6 : Hid (Fm w [(w.heap.size, C, 29), (w.heap.size + 1, D, 40), (w.heap.size + 2, (dCs d), 50), (y4.heap.size, (o6 OD), 45)] y6 ∧ True) := ⟨K5.out.1.put 3 _ _ _ _ rfl H6.out, trivial⟩; clear H6 K5)
    | ((with_reducible refine gen_world (y4.alloc (.cells #[.int .u8 0, .int .u8 0, .int .u8 0, .int .u8 0, .int .u8 0, .int .u16 0] 45)) (fun y => Fm w [(w.heap.size, C, 29), (w.heap.size + 1, D, 40), (w.heap.size + 2, (dCs d), 50), (y4.heap.size, #[.int .u8 0, .int .u8 0, .int .u8 0, .int .u8 0, .int .u8 0, .int .u16 0], 45)] y ∧ True) ?_ ?_); (exact ⟨K4.out.1.new _ _, trivial⟩); intro y5 K5)
    | (go_at_call 16; refine (next_any y3 C g (hg.out.below K3.out.1.low)).mono ?_; rintro e y4 ⟨rfl, H⟩; have K4 : Hid (Fm w [(w.heap.size, C, 29), (w.heap.size + 1, D, 40), (w.heap.size + 2, (dCs d), 50)] y4 ∧ True) := ⟨K3.out.1.below H, trivial⟩; (simp only [hnx.out]); clear H)
    | (go_at_call 18; refine (rcheck_gl y2 C g (hg.out.below K2.out.1.low)).mono ?_; rintro e y3 ⟨rfl, H⟩; have K3 : Hid (Fm w [(w.heap.size, C, 29), (w.heap.size + 1, D, 40), (w.heap.size + 2, (dCs d), 50)] y3 ∧ True) := ⟨K2.out.1.below H, trivial⟩; rw [hm.out]; clear H)
    | (go_at_call 13; refine (vast_gl y1 C D g f (hg.out.below K1.out.1.low) (hf.out.below K1.out.1.low)).mono ?_; rintro e y2 ⟨rfl, H⟩; have K2 : Hid (Fm w [(w.heap.size, C, 29), (w.heap.size + 1, D, 40), (w.heap.size + 2, (dCs d), 50)] y2 ∧ True) := ⟨K1.out.1.below H, trivial⟩; rw [hv.out]; clear H)
    | (go_at_call 6; refine (awake_any y0).mono ?_; rintro e y1 ⟨rfl, H⟩; have K1 : Hid (Fm w [(w.heap.size, C, 29), (w.heap.size + 1, D, 40), (w.heap.size + 2, (dCs d), 50)] y1 ∧ True) := ⟨K0.out.1.below H, trivial⟩; clear H)
    | ((with_reducible refine gen_world (((w.alloc (.cells C 29)).alloc (.cells D 40)).alloc (.cells (dCs d) 50)) (fun y => Fm w [(w.heap.size, C, 29), (w.heap.size + 1, D, 40), (w.heap.size + 2, (dCs d), 50)] y ∧ True) ?_ ?_); (exact ⟨Fm.three w _ _ _ _ _ _ , trivial⟩); intro y0 K0)
    | ((with_reducible refine at_load rtG (w.heap.size) C ?_ ?_ (.tmp 3) ?_ ?_ ?_ ?_); (first | exact K6.out.1.bx 0 _ _ _ rfl | exact K3.out.1.bx 0 _ _ _ rfl | exact K2.out.1.bx 0 _ _ _ rfl | exact K1.out.1.bx 0 _ _ _ rfl); (first | exact gC.out); kernel_rfl; rfl; rfl)
    | ((with_reducible refine at_load rtFn (w.heap.size + 1) D ?_ ?_ (.tmp 4) ?_ ?_ ?_ ?_); (first | exact K6.out.1.bx 1 _ _ _ rfl | exact K1.out.1.bx 1 _ _ _ rfl); (first | exact gD.out); kernel_rfl; rfl; rfl)
    | ((with_reducible refine at_load rtFd (w.heap.size + 2) (dCs d) ?_ ?_ (.tmp 5) ?_ ?_ ?_ ?_); (first | exact K6.out.1.bx 2 _ _ _ rfl); (first | rfl); kernel_rfl; rfl; rfl))
  go_ret
  exact ⟨rfl, K9.out.1.low⟩

theorem touches_nx (w : World) (C D : Array Value) (g : Gm) (f : Fo) (d : Fd) (hg : Hid (GL w C g)) (hf : Hid (FL w D f)) (hd : Hid d.Ok) (hv : Hid (vasG g.st.length g.pg.length g.me.length f.by_.length = false)) (hm : Hid (g.may = true)) (hs : Hid (smaG g f)) (OD : Od) (nx : Nat) (hnx : Hid (nextG g = (OD, nx))) (s1 : Gm) (o1 e1 : Nat) (hs1 : Hid (stepG g f d = (s1, o1, e1))) (he : e1 = 0) (hx : nx ≠ 1) (ho : o1 = nx) :
    Calls Try.prog 5 #[.agg C, .agg D, .agg (dCs d)] w fun e w' => e = .returned (.bool true) ∧ Below w.heap.size w w' := by
  have gC : Hid (C.size = 23) := hg.out.size.1
  have gD : Hid (D.size = 18) := hf.out.size
  have q1 : ((e1 : Int) != 0) = false := by simp; omega
  have q3 : ((e1 : Int) == 0) = true := by simp; omega
  have q4 : ((nx : Int) != 1) = true := by simp; omega
  have q5 : ((nx : Int) == 1) = false := by simp; omega
  have q6 : ((o1 : Int) == (nx : Int)) = true := by simp; omega
  clear he hx ho
  go_enter Try.func5, Try.ntmps5
  go_wp2_with (first
    | ((with_reducible refine at_st rtG y7.heap.size #[.int .u8 0, .int .u8 0, .int .u8 0, .int .u8 0, .int .u8 0, .int .u8 0, .int .u8 0, .int .u8 0, .int .u8 0, .int .u8 0, .int .u8 0, .int .u8 0, .int .u8 0, .int .u8 0, .int .u8 0, .int .u8 0, .int .u16 0, .int .u16 0, .slice none 0 0, .int .u8 0, .int .u8 0, .slice none 0 0, .slice none 0 0] C1 ?_ ?_ ?_ ?_ (.tmp 11) (.tmp 44) ?_ ?_ ?_ ?_ ?_); exact K8.out.1.bx 4 _ _ _ rfl; rfl; exact (K8.out.2.1).lies.size.1; exact (K8.out.2.1).lies.size.2.1; rfl; rfl; rfl; rfl; intro y9 H9; have K9 : Hid (Fm w [(w.heap.size, C, 29), (w.heap.size + 1, D, 40), (w.heap.size + 2, (dCs d), 50), (y4.heap.size, (o6 OD), 45), (y7.heap.size, C1, 29)] y9 ∧ GO w.heap.size y9 C1 s1 ∧ True) := ⟨K8.out.1.put 4 _ _ _ _ rfl H9.out, (K8.out.2.1).offT (K8.out.1.bx 4 _ _ _ rfl) (by decide) (by decide) H9.out.2.2, trivial⟩; clear H9 K8)
    | ((with_reducible refine gen_world (y7.alloc (.cells #[.int .u8 0, .int .u8 0, .int .u8 0, .int .u8 0, .int .u8 0, .int .u8 0, .int .u8 0, .int .u8 0, .int .u8 0, .int .u8 0, .int .u8 0, .int .u8 0, .int .u8 0, .int .u8 0, .int .u8 0, .int .u8 0, .int .u16 0, .int .u16 0, .slice none 0 0, .int .u8 0, .int .u8 0, .slice none 0 0, .slice none 0 0] 29)) (fun y => Fm w [(w.heap.size, C, 29), (w.heap.size + 1, D, 40), (w.heap.size + 2, (dCs d), 50), (y4.heap.size, (o6 OD), 45), (y7.heap.size, #[.int .u8 0, .int .u8 0, .int .u8 0, .int .u8 0, .int .u8 0, .int .u8 0, .int .u8 0, .int .u8 0, .int .u8 0, .int .u8 0, .int .u8 0, .int .u8 0, .int .u8 0, .int .u8 0, .int .u8 0, .int .u8 0, .int .u16 0, .int .u16 0, .slice none 0 0, .int .u8 0, .int .u8 0, .slice none 0 0, .slice none 0 0], 29)] y ∧ GO w.heap.size y C1 s1 ∧ True) ?_ ?_); (exact ⟨K7.out.1.new _ _, (K7.out.2.1).below (below1 y7 _), trivial⟩); intro y8 K8)
    | (go_at_call 20; refine (step_any y6 C D g f d (hg.out.below K6.out.1.low) (hf.out.below K6.out.1.low) hd.out hs.out).mono ?_; rintro e y7 ⟨C1, rfl, J, H⟩; have K7 : Hid (Fm w [(w.heap.size, C, 29), (w.heap.size + 1, D, 40), (w.heap.size + 2, (dCs d), 50), (y4.heap.size, (o6 OD), 45)] y7 ∧ GO w.heap.size y7 C1 s1 ∧ True) := ⟨K6.out.1.below H, (by have h := J; simp only [hs1.out] at h; exact h.weak K6.out.1.low.size), trivial⟩; (simp only [hs1.out]); clear H J)
    | ((with_reducible refine at_st rtO y4.heap.size #[.int .u8 0, .int .u8 0, .int .u8 0, .int .u8 0, .int .u8 0, .int .u16 0] (o6 OD) ?_ ?_ ?_ ?_ (.tmp 9) (.tmp 37) ?_ ?_ ?_ ?_ ?_); exact K5.out.1.bx 3 _ _ _ rfl; rfl; rfl; exact o6_one OD; rfl; rfl; rfl; rfl; intro y6 H6; have K6 : Hid (Fm w [(w.heap.size, C, 29), (w.heap.size + 1, D, 40), (w.heap.size + 2, (dCs d), 50), (y4.heap.size, (o6 OD), 45)] y6 ∧ True) := ⟨K5.out.1.put 3 _ _ _ _ rfl H6.out, trivial⟩; clear H6 K5)
    | ((with_reducible refine gen_world (y4.alloc (.cells #[.int .u8 0, .int .u8 0, .int .u8 0, .int .u8 0, .int .u8 0, .int .u16 0] 45)) (fun y => Fm w [(w.heap.size, C, 29), (w.heap.size + 1, D, 40), (w.heap.size + 2, (dCs d), 50), (y4.heap.size, #[.int .u8 0, .int .u8 0, .int .u8 0, .int .u8 0, .int .u8 0, .int .u16 0], 45)] y ∧ True) ?_ ?_); (exact ⟨K4.out.1.new _ _, trivial⟩); intro y5 K5)
    | (go_at_call 16; refine (next_any y3 C g (hg.out.below K3.out.1.low)).mono ?_; rintro e y4 ⟨rfl, H⟩; have K4 : Hid (Fm w [(w.heap.size, C, 29), (w.heap.size + 1, D, 40), (w.heap.size + 2, (dCs d), 50)] y4 ∧ True) := ⟨K3.out.1.below H, trivial⟩; (simp only [hnx.out]); clear H)
    | (go_at_call 18; refine (rcheck_gl y2 C g (hg.out.below K2.out.1.low)).mono ?_; rintro e y3 ⟨rfl, H⟩; have K3 : Hid (Fm w [(w.heap.size, C, 29), (w.heap.size + 1, D, 40), (w.heap.size + 2, (dCs d), 50)] y3 ∧ True) := ⟨K2.out.1.below H, trivial⟩; rw [hm.out]; clear H)
    | (go_at_call 13; refine (vast_gl y1 C D g f (hg.out.below K1.out.1.low) (hf.out.below K1.out.1.low)).mono ?_; rintro e y2 ⟨rfl, H⟩; have K2 : Hid (Fm w [(w.heap.size, C, 29), (w.heap.size + 1, D, 40), (w.heap.size + 2, (dCs d), 50)] y2 ∧ True) := ⟨K1.out.1.below H, trivial⟩; rw [hv.out]; clear H)
    | (go_at_call 6; refine (awake_any y0).mono ?_; rintro e y1 ⟨rfl, H⟩; have K1 : Hid (Fm w [(w.heap.size, C, 29), (w.heap.size + 1, D, 40), (w.heap.size + 2, (dCs d), 50)] y1 ∧ True) := ⟨K0.out.1.below H, trivial⟩; clear H)
    | ((with_reducible refine gen_world (((w.alloc (.cells C 29)).alloc (.cells D 40)).alloc (.cells (dCs d) 50)) (fun y => Fm w [(w.heap.size, C, 29), (w.heap.size + 1, D, 40), (w.heap.size + 2, (dCs d), 50)] y ∧ True) ?_ ?_); (exact ⟨Fm.three w _ _ _ _ _ _ , trivial⟩); intro y0 K0)
    | ((with_reducible refine at_load rtG (w.heap.size) C ?_ ?_ (.tmp 3) ?_ ?_ ?_ ?_); (first | exact K6.out.1.bx 0 _ _ _ rfl | exact K3.out.1.bx 0 _ _ _ rfl | exact K2.out.1.bx 0 _ _ _ rfl | exact K1.out.1.bx 0 _ _ _ rfl); (first | exact gC.out); kernel_rfl; rfl; rfl)
    | ((with_reducible refine at_load rtFn (w.heap.size + 1) D ?_ ?_ (.tmp 4) ?_ ?_ ?_ ?_); (first | exact K6.out.1.bx 1 _ _ _ rfl | exact K1.out.1.bx 1 _ _ _ rfl); (first | exact gD.out); kernel_rfl; rfl; rfl)
    | ((with_reducible refine at_load rtFd (w.heap.size + 2) (dCs d) ?_ ?_ (.tmp 5) ?_ ?_ ?_ ?_); (first | exact K6.out.1.bx 2 _ _ _ rfl); (first | rfl); kernel_rfl; rfl; rfl))
  go_ret
  exact ⟨rfl, K9.out.1.low⟩

theorem touches_not (w : World) (C D : Array Value) (g : Gm) (f : Fo) (d : Fd) (hg : Hid (GL w C g)) (hf : Hid (FL w D f)) (hd : Hid d.Ok) (hv : Hid (vasG g.st.length g.pg.length g.me.length f.by_.length = false)) (hm : Hid (g.may = true)) (hs : Hid (smaG g f)) (OD : Od) (nx : Nat) (hnx : Hid (nextG g = (OD, nx))) (s1 : Gm) (o1 e1 : Nat) (hs1 : Hid (stepG g f d = (s1, o1, e1))) (he : e1 = 0) (hx : nx = 1) (ho : o1 ≠ 1) :
    Calls Try.prog 5 #[.agg C, .agg D, .agg (dCs d)] w fun e w' => e = .returned (.bool true) ∧ Below w.heap.size w w' := by
  have gC : Hid (C.size = 23) := hg.out.size.1
  have gD : Hid (D.size = 18) := hf.out.size
  have q1 : ((e1 : Int) != 0) = false := by simp; omega
  have q3 : ((e1 : Int) == 0) = true := by simp; omega
  have q4 : ((nx : Int) != 1) = false := by simp; omega
  have q5 : ((nx : Int) == 1) = true := by simp; omega
  have q6 : ((o1 : Int) != 1) = true := by simp; omega
  clear he hx ho
  go_enter Try.func5, Try.ntmps5
  go_wp2_with (first
    | ((with_reducible refine at_st rtG y7.heap.size #[.int .u8 0, .int .u8 0, .int .u8 0, .int .u8 0, .int .u8 0, .int .u8 0, .int .u8 0, .int .u8 0, .int .u8 0, .int .u8 0, .int .u8 0, .int .u8 0, .int .u8 0, .int .u8 0, .int .u8 0, .int .u8 0, .int .u16 0, .int .u16 0, .slice none 0 0, .int .u8 0, .int .u8 0, .slice none 0 0, .slice none 0 0] C1 ?_ ?_ ?_ ?_ (.tmp 11) (.tmp 44) ?_ ?_ ?_ ?_ ?_); exact K8.out.1.bx 4 _ _ _ rfl; rfl; exact (K8.out.2.1).lies.size.1; exact (K8.out.2.1).lies.size.2.1; rfl; rfl; rfl; rfl; intro y9 H9; have K9 : Hid (Fm w [(w.heap.size, C, 29), (w.heap.size + 1, D, 40), (w.heap.size + 2, (dCs d), 50), (y4.heap.size, (o6 OD), 45), (y7.heap.size, C1, 29)] y9 ∧ GO w.heap.size y9 C1 s1 ∧ True) := ⟨K8.out.1.put 4 _ _ _ _ rfl H9.out, (K8.out.2.1).offT (K8.out.1.bx 4 _ _ _ rfl) (by decide) (by decide) H9.out.2.2, trivial⟩; clear H9 K8)
    | ((with_reducible refine gen_world (y7.alloc (.cells #[.int .u8 0, .int .u8 0, .int .u8 0, .int .u8 0, .int .u8 0, .int .u8 0, .int .u8 0, .int .u8 0, .int .u8 0, .int .u8 0, .int .u8 0, .int .u8 0, .int .u8 0, .int .u8 0, .int .u8 0, .int .u8 0, .int .u16 0, .int .u16 0, .slice none 0 0, .int .u8 0, .int .u8 0, .slice none 0 0, .slice none 0 0] 29)) (fun y => Fm w [(w.heap.size, C, 29), (w.heap.size + 1, D, 40), (w.heap.size + 2, (dCs d), 50), (y4.heap.size, (o6 OD), 45), (y7.heap.size, #[.int .u8 0, .int .u8 0, .int .u8 0, .int .u8 0, .int .u8 0, .int .u8 0, .int .u8 0, .int .u8 0, .int .u8 0, .int .u8 0, .int .u8 0, .int .u8 0, .int .u8 0, .int .u8 0, .int .u8 0, .int .u8 0, .int .u16 0, .int .u16 0, .slice none 0 0, .int .u8 0, .int .u8 0, .slice none 0 0, .slice none 0 0], 29)] y ∧ GO w.heap.size y C1 s1 ∧ True) ?_ ?_); (exact ⟨K7.out.1.new _ _, (K7.out.2.1).below (below1 y7 _), trivial⟩); intro y8 K8)
    | (go_at_call 20; refine (step_any y6 C D g f d (hg.out.below K6.out.1.low) (hf.out.below K6.out.1.low) hd.out hs.out).mono ?_; rintro e y7 ⟨C1, rfl, J, H⟩; have K7 : Hid (Fm w [(w.heap.size, C, 29), (w.heap.size + 1, D, 40), (w.heap.size + 2, (dCs d), 50), (y4.heap.size, (o6 OD), 45)] y7 ∧ GO w.heap.size y7 C1 s1 ∧ True) := ⟨K6.out.1.below H, (by have h := J; simp only [hs1.out] at h; exact h.weak K6.out.1.low.size), trivial⟩; (simp only [hs1.out]); clear H J)
    | ((with_reducible refine at_st rtO y4.heap.size #[.int .u8 0, .int .u8 0, .int .u8 0, .int .u8 0, .int .u8 0, .int .u16 0] (o6 OD) ?_ ?_ ?_ ?_ (.tmp 9) (.tmp 37) ?_ ?_ ?_ ?_ ?_); exact K5.out.1.bx 3 _ _ _ rfl; rfl; rfl; exact o6_one OD; rfl; rfl; rfl; rfl; intro y6 H6; have K6 : Hid (Fm w [(w.heap.size, C, 29), (w.heap.size + 1, D, 40), (w.heap.size + 2, (dCs d), 50), (y4.heap.size, (o6 OD), 45)] y6 ∧ True) := ⟨K5.out.1.put 3 _ _ _ _ rfl H6.out, trivial⟩; clear H6 K5)
    | ((with_reducible refine gen_world (y4.alloc (.cells #[.int .u8 0, .int .u8 0, .int .u8 0, .int .u8 0, .int .u8 0, .int .u16 0] 45)) (fun y => Fm w [(w.heap.size, C, 29), (w.heap.size + 1, D, 40), (w.heap.size + 2, (dCs d), 50), (y4.heap.size, #[.int .u8 0, .int .u8 0, .int .u8 0, .int .u8 0, .int .u8 0, .int .u16 0], 45)] y ∧ True) ?_ ?_); (exact ⟨K4.out.1.new _ _, trivial⟩); intro y5 K5)
    | (go_at_call 16; refine (next_any y3 C g (hg.out.below K3.out.1.low)).mono ?_; rintro e y4 ⟨rfl, H⟩; have K4 : Hid (Fm w [(w.heap.size, C, 29), (w.heap.size + 1, D, 40), (w.heap.size + 2, (dCs d), 50)] y4 ∧ True) := ⟨K3.out.1.below H, trivial⟩; (simp only [hnx.out]); clear H)
    | (go_at_call 18; refine (rcheck_gl y2 C g (hg.out.below K2.out.1.low)).mono ?_; rintro e y3 ⟨rfl, H⟩; have K3 : Hid (Fm w [(w.heap.size, C, 29), (w.heap.size + 1, D, 40), (w.heap.size + 2, (dCs d), 50)] y3 ∧ True) := ⟨K2.out.1.below H, trivial⟩; rw [hm.out]; clear H)
    | (go_at_call 13; refine (vast_gl y1 C D g f (hg.out.below K1.out.1.low) (hf.out.below K1.out.1.low)).mono ?_; rintro e y2 ⟨rfl, H⟩; have K2 : Hid (Fm w [(w.heap.size, C, 29), (w.heap.size + 1, D, 40), (w.heap.size + 2, (dCs d), 50)] y2 ∧ True) := ⟨K1.out.1.below H, trivial⟩; rw [hv.out]; clear H)
    | (go_at_call 6; refine (awake_any y0).mono ?_; rintro e y1 ⟨rfl, H⟩; have K1 : Hid (Fm w [(w.heap.size, C, 29), (w.heap.size + 1, D, 40), (w.heap.size + 2, (dCs d), 50)] y1 ∧ True) := ⟨K0.out.1.below H, trivial⟩; clear H)
    | ((with_reducible refine gen_world (((w.alloc (.cells C 29)).alloc (.cells D 40)).alloc (.cells (dCs d) 50)) (fun y => Fm w [(w.heap.size, C, 29), (w.heap.size + 1, D, 40), (w.heap.size + 2, (dCs d), 50)] y ∧ True) ?_ ?_); (exact ⟨Fm.three w _ _ _ _ _ _ , trivial⟩); intro y0 K0)
    | ((with_reducible refine at_load rtG (w.heap.size) C ?_ ?_ (.tmp 3) ?_ ?_ ?_ ?_); (first | exact K6.out.1.bx 0 _ _ _ rfl | exact K3.out.1.bx 0 _ _ _ rfl | exact K2.out.1.bx 0 _ _ _ rfl | exact K1.out.1.bx 0 _ _ _ rfl); (first | exact gC.out); kernel_rfl; rfl; rfl)
    | ((with_reducible refine at_load rtFn (w.heap.size + 1) D ?_ ?_ (.tmp 4) ?_ ?_ ?_ ?_); (first | exact K6.out.1.bx 1 _ _ _ rfl | exact K1.out.1.bx 1 _ _ _ rfl); (first | exact gD.out); kernel_rfl; rfl; rfl)
    | ((with_reducible refine at_load rtFd (w.heap.size + 2) (dCs d) ?_ ?_ (.tmp 5) ?_ ?_ ?_ ?_); (first | exact K6.out.1.bx 2 _ _ _ rfl); (first | rfl); kernel_rfl; rfl; rfl))
  go_ret
  exact ⟨rfl, K9.out.1.low⟩

theorem touches_done (w : World) (C D : Array Value) (g : Gm) (f : Fo) (d : Fd) (hg : Hid (GL w C g)) (hf : Hid (FL w D f)) (hd : Hid d.Ok) (hv : Hid (vasG g.st.length g.pg.length g.me.length f.by_.length = false)) (hm : Hid (g.may = true)) (hs : Hid (smaG g f)) (OD : Od) (nx : Nat) (hnx : Hid (nextG g = (OD, nx))) (s1 : Gm) (o1 e1 : Nat) (hs1 : Hid (stepG g f d = (s1, o1, e1))) (he : e1 = 0) (hx : nx = 1) (ho : o1 = 1) (F : Hid (Tch g s1 OD)) (OR : Hid (OdR OD)) :
    Calls Try.prog 5 #[.agg C, .agg D, .agg (dCs d)] w fun e w' => e = .returned (.bool true) ∧ Below w.heap.size w w' := by
  have gC : Hid (C.size = 23) := hg.out.size.1
  have gD : Hid (D.size = 18) := hf.out.size
  have q1 : ((e1 : Int) != 0) = false := by simp; omega
  have q4 : ((nx : Int) != 1) = false := by simp; omega
  have q6 : ((o1 : Int) != 1) = false := by simp; omega
  have hml : Hid (g.me.length = 3232 ∧ g.pg.length = 256 ∧ g.st.length ≤ 12) := by have := may_iff.1 hm.out; exact ⟨this.2.1, this.1, this.2.2⟩
  clear he hx ho
  go_enter Try.func5, Try.ntmps5
  go_wp2_with (first
    | ((with_reducible refine at_st rtG y7.heap.size #[.int .u8 0, .int .u8 0, .int .u8 0, .int .u8 0, .int .u8 0, .int .u8 0, .int .u8 0, .int .u8 0, .int .u8 0, .int .u8 0, .int .u8 0, .int .u8 0, .int .u8 0, .int .u8 0, .int .u8 0, .int .u8 0, .int .u16 0, .int .u16 0, .slice none 0 0, .int .u8 0, .int .u8 0, .slice none 0 0, .slice none 0 0] C1 ?_ ?_ ?_ ?_ (.tmp 11) (.tmp 44) ?_ ?_ ?_ ?_ ?_); exact K8.out.1.bx 4 _ _ _ rfl; rfl; exact (K8.out.2.1).lies.size.1; exact (K8.out.2.1).lies.size.2.1; rfl; rfl; rfl; rfl; intro y9 H9; have K9 : Hid (Fm w [(w.heap.size, C, 29), (w.heap.size + 1, D, 40), (w.heap.size + 2, (dCs d), 50), (y4.heap.size, (o6 OD), 45), (y7.heap.size, C1, 29)] y9 ∧ GO w.heap.size y9 C1 s1 ∧ True) := ⟨K8.out.1.put 4 _ _ _ _ rfl H9.out, (K8.out.2.1).offT (K8.out.1.bx 4 _ _ _ rfl) (by decide) (by decide) H9.out.2.2, trivial⟩; clear H9 K8)
    | ((with_reducible refine gen_world (y7.alloc (.cells #[.int .u8 0, .int .u8 0, .int .u8 0, .int .u8 0, .int .u8 0, .int .u8 0, .int .u8 0, .int .u8 0, .int .u8 0, .int .u8 0, .int .u8 0, .int .u8 0, .int .u8 0, .int .u8 0, .int .u8 0, .int .u8 0, .int .u16 0, .int .u16 0, .slice none 0 0, .int .u8 0, .int .u8 0, .slice none 0 0, .slice none 0 0] 29)) (fun y => Fm w [(w.heap.size, C, 29), (w.heap.size + 1, D, 40), (w.heap.size + 2, (dCs d), 50), (y4.heap.size, (o6 OD), 45), (y7.heap.size, #[.int .u8 0, .int .u8 0, .int .u8 0, .int .u8 0, .int .u8 0, .int .u8 0, .int .u8 0, .int .u8 0, .int .u8 0, .int .u8 0, .int .u8 0, .int .u8 0, .int .u8 0, .int .u8 0, .int .u8 0, .int .u8 0, .int .u16 0, .int .u16 0, .slice none 0 0, .int .u8 0, .int .u8 0, .slice none 0 0, .slice none 0 0], 29)] y ∧ GO w.heap.size y C1 s1 ∧ True) ?_ ?_); (exact ⟨K7.out.1.new _ _, (K7.out.2.1).below (below1 y7 _), trivial⟩); intro y8 K8)
    | (go_at_call 20; refine (step_any y6 C D g f d (hg.out.below K6.out.1.low) (hf.out.below K6.out.1.low) hd.out hs.out).mono ?_; rintro e y7 ⟨C1, rfl, J, H⟩; have K7 : Hid (Fm w [(w.heap.size, C, 29), (w.heap.size + 1, D, 40), (w.heap.size + 2, (dCs d), 50), (y4.heap.size, (o6 OD), 45)] y7 ∧ GO w.heap.size y7 C1 s1 ∧ True) := ⟨K6.out.1.below H, (by have h := J; simp only [hs1.out] at h; exact h.weak K6.out.1.low.size), trivial⟩; (simp only [hs1.out]); clear H J)
    | ((with_reducible refine at_st rtO y4.heap.size #[.int .u8 0, .int .u8 0, .int .u8 0, .int .u8 0, .int .u8 0, .int .u16 0] (o6 OD) ?_ ?_ ?_ ?_ (.tmp 9) (.tmp 37) ?_ ?_ ?_ ?_ ?_); exact K5.out.1.bx 3 _ _ _ rfl; rfl; rfl; exact o6_one OD; rfl; rfl; rfl; rfl; intro y6 H6; have K6 : Hid (Fm w [(w.heap.size, C, 29), (w.heap.size + 1, D, 40), (w.heap.size + 2, (dCs d), 50), (y4.heap.size, (o6 OD), 45)] y6 ∧ True) := ⟨K5.out.1.put 3 _ _ _ _ rfl H6.out, trivial⟩; clear H6 K5)
    | ((with_reducible refine gen_world (y4.alloc (.cells #[.int .u8 0, .int .u8 0, .int .u8 0, .int .u8 0, .int .u8 0, .int .u16 0] 45)) (fun y => Fm w [(w.heap.size, C, 29), (w.heap.size + 1, D, 40), (w.heap.size + 2, (dCs d), 50), (y4.heap.size, #[.int .u8 0, .int .u8 0, .int .u8 0, .int .u8 0, .int .u8 0, .int .u16 0], 45)] y ∧ True) ?_ ?_); (exact ⟨K4.out.1.new _ _, trivial⟩); intro y5 K5)
    | (go_at_call 16; refine (next_any y3 C g (hg.out.below K3.out.1.low)).mono ?_; rintro e y4 ⟨rfl, H⟩; have K4 : Hid (Fm w [(w.heap.size, C, 29), (w.heap.size + 1, D, 40), (w.heap.size + 2, (dCs d), 50)] y4 ∧ True) := ⟨K3.out.1.below H, trivial⟩; (simp only [hnx.out]); clear H)
    | (go_at_call 18; refine (rcheck_gl y2 C g (hg.out.below K2.out.1.low)).mono ?_; rintro e y3 ⟨rfl, H⟩; have K3 : Hid (Fm w [(w.heap.size, C, 29), (w.heap.size + 1, D, 40), (w.heap.size + 2, (dCs d), 50)] y3 ∧ True) := ⟨K2.out.1.below H, trivial⟩; rw [hm.out]; clear H)
    | (go_at_call 13; refine (vast_gl y1 C D g f (hg.out.below K1.out.1.low) (hf.out.below K1.out.1.low)).mono ?_; rintro e y2 ⟨rfl, H⟩; have K2 : Hid (Fm w [(w.heap.size, C, 29), (w.heap.size + 1, D, 40), (w.heap.size + 2, (dCs d), 50)] y2 ∧ True) := ⟨K1.out.1.below H, trivial⟩; rw [hv.out]; clear H)
    | (go_at_call 6; refine (awake_any y0).mono ?_; rintro e y1 ⟨rfl, H⟩; have K1 : Hid (Fm w [(w.heap.size, C, 29), (w.heap.size + 1, D, 40), (w.heap.size + 2, (dCs d), 50)] y1 ∧ True) := ⟨K0.out.1.below H, trivial⟩; clear H)
    | ((with_reducible refine gen_world (((w.alloc (.cells C 29)).alloc (.cells D 40)).alloc (.cells (dCs d) 50)) (fun y => Fm w [(w.heap.size, C, 29), (w.heap.size + 1, D, 40), (w.heap.size + 2, (dCs d), 50)] y ∧ True) ?_ ?_); (exact ⟨Fm.three w _ _ _ _ _ _ , trivial⟩); intro y0 K0)
    | ((with_reducible refine at_load rtG (w.heap.size) C ?_ ?_ (.tmp 3) ?_ ?_ ?_ ?_); (first | exact K6.out.1.bx 0 _ _ _ rfl | exact K3.out.1.bx 0 _ _ _ rfl | exact K2.out.1.bx 0 _ _ _ rfl | exact K1.out.1.bx 0 _ _ _ rfl); (first | exact gC.out); kernel_rfl; rfl; rfl)
    | ((with_reducible refine at_load rtFn (w.heap.size + 1) D ?_ ?_ (.tmp 4) ?_ ?_ ?_ ?_); (first | exact K6.out.1.bx 1 _ _ _ rfl | exact K1.out.1.bx 1 _ _ _ rfl); (first | exact gD.out); kernel_rfl; rfl; rfl)
    | ((with_reducible refine at_load rtFd (w.heap.size + 2) (dCs d) ?_ ?_ (.tmp 5) ?_ ?_ ?_ ?_); (first | exact K6.out.1.bx 2 _ _ _ rfl); (first | rfl); kernel_rfl; rfl; rfl))
  have KK : Hid (Fm w [(w.heap.size, C, 29), (w.heap.size + 1, D, 40), (w.heap.size + 2, (dCs d), 50), (y4.heap.size, (o6 OD), 45), (y7.heap.size, C1, 29)] y9 ∧ GO w.heap.size y9 C1 s1) := ⟨K9.out.1, K9.out.2.1⟩
  generalize y4.heap.size = bO at KK ⊢
  generalize y7.heap.size = bN at KK ⊢
  clear K0 K1 K2 K3 K4 K6 K7 K9
  have gC1 : Hid (C1.size = 23) := KK.out.2.lies.size.1
  go_loopw [14] (fun kv wz => ∃ (k : Nat) (y : World), y = wz ∧ k ≤ 16 ∧ kv = .int .i64 (k : Int) ∧ Hid (Fm w [(w.heap.size, C, 29), (w.heap.size + 1, D, 40), (w.heap.size + 2, (dCs d), 50), (bO, (o6 OD), 45), (bN, C1, 29)] y ∧ GO w.heap.size y C1 s1)) (fun kv _ => (16 - intOf kv).toNat)
  case atStart => exact ⟨0, _, rfl, by omega, rfl, KK⟩
  case round =>
    obtain ⟨k, y, rfl, hk, rfl, K⟩ := hrel
    clear KK
    by_cases hlt : k < 16
    · have hki : (k : Int) < 16 := by omega
      have hlt' : Hid (k < 16) := hlt
      have ix := fun b v => idxV b .i64 k v hlt
      have c1 : Hid (∀ z, Fm w [(w.heap.size, C, 29), (w.heap.size + 1, D, 40), (w.heap.size + 2, (dCs d), 50), (bO, (o6 OD), 45), (bN, C1, 29)] z → z.cell? ⟨w.heap.size, k, none⟩ = some (.int .u8 ((g.v.getD k 0).toNat : Int))) := fun z h => (h.bx 0 _ _ _ rfl).c k _ (hg.out.vT k hlt'.out)
      have c2 : Hid (∀ z, Fm w [(w.heap.size, C, 29), (w.heap.size + 1, D, 40), (w.heap.size + 2, (dCs d), 50), (bO, (o6 OD), 45), (bN, C1, 29)] z → z.cell? ⟨bN, k, none⟩ = some (.int .u8 ((s1.v.getD k 0).toNat : Int))) := fun z h => (h.bx 4 _ _ _ rfl).c k _ (K.out.2.lies.vT k hlt'.out)
      obtain ⟨a1, ha1⟩ : ∃ x, (g.v.getD k 0).toNat = x := ⟨_, rfl⟩
      obtain ⟨a2, ha2⟩ : ∃ x, (s1.v.getD k 0).toNat = x := ⟨_, rfl⟩
      rw [ha1] at c1
      rw [ha2] at c2
      have l1 : a1 < 256 := by rw [← ha1]; exact UInt8.toNat_lt _
      have l2 : a2 < 256 := by rw [← ha2]; exact UInt8.toNat_lt _
      by_cases hq : a2 = a1
      · have r1 : ((a2 : Int) != (a1 : Int)) = false := by simp; omega
        obtain ⟨M, hM⟩ : ∃ b, Hid (tchG OD k = b) := ⟨_, (rfl : tchG OD k = _)⟩
        clear hk hlt ha1 ha2 hq l1 l2
        go_wp2_with (first
          | (go_at_call 21; refine (touched_any y OD OR.out k hlt'.out).mono ?_; rintro e y2 ⟨rfl, H⟩; rw [hM.out]; have K2 : Hid (Fm w [(w.heap.size, C, 29), (w.heap.size + 1, D, 40), (w.heap.size + 2, (dCs d), 50), (bO, (o6 OD), 45), (bN, C1, 29)] y2 ∧ GO w.heap.size y2 C1 s1) := ⟨K.out.1.below H, K.out.2.below H⟩; have d1 := c1.out _ K2.out.1; have d2 := c2.out _ K2.out.1; clear H)
          | ((with_reducible refine at_load rtO bO (o6 OD) ?_ ?_ (.tmp 9) ?_ ?_ ?_ ?_); exact K.out.1.bx 3 _ _ _ rfl; rfl; kernel_rfl; rfl; rfl))
        go_quiet (fail)
        go_wp2
        go_roundw
        case rel => exact ⟨k + 1, _, rfl, hlt'.out, by simp, by first | exact (⟨K2.out.1.below (below_drewN (Below.refl _ _)), K2.out.2.below (below_drewN (Below.refl _ _))⟩ : _ ∧ _) | exact K2⟩
        case measure => have := hlt'.out; simp [intOf]; omega
      · have r1 : ((a2 : Int) != (a1 : Int)) = true := by simp; omega
        have hM : Hid (tchG OD k = true) := by
          show tchG OD k = true
          rcases hb : tchG OD k with _ | _
          · exact absurd (by rw [← ha1, ← ha2, F.out.v k hb]) hq
          · rfl
        clear hk hlt ha1 ha2 hq l1 l2
        go_wp2_with (first
          | (go_at_call 21; refine (touched_any y OD OR.out k hlt'.out).mono ?_; rintro e y2 ⟨rfl, H⟩; rw [hM.out]; have K2 : Hid (Fm w [(w.heap.size, C, 29), (w.heap.size + 1, D, 40), (w.heap.size + 2, (dCs d), 50), (bO, (o6 OD), 45), (bN, C1, 29)] y2 ∧ GO w.heap.size y2 C1 s1) := ⟨K.out.1.below H, K.out.2.below H⟩; have d1 := c1.out _ K2.out.1; have d2 := c2.out _ K2.out.1; clear H)
          | ((with_reducible refine at_load rtO bO (o6 OD) ?_ ?_ (.tmp 9) ?_ ?_ ?_ ?_); exact K.out.1.bx 3 _ _ _ rfl; rfl; kernel_rfl; rfl; rfl))
        go_quiet (fail)
        go_wp2
        go_roundw
        case rel => exact ⟨k + 1, _, rfl, hlt'.out, by simp, by first | exact (⟨K2.out.1.below (below_drewN (Below.refl _ _)), K2.out.2.below (below_drewN (Below.refl _ _))⟩ : _ ∧ _) | exact K2⟩
        case measure => have := hlt'.out; simp [intOf]; omega
    · obtain rfl : k = 16 := by omega
      clear hk hlt
      obtain ⟨sM, cM, eM, lM⟩ := hg.out.meT
      obtain ⟨sM1, cM1, eM1, lM1⟩ := K.out.2.lies.meT
      rw [hml.out.1] at eM
      rw [F.out.ml] at eM1
      obtain ⟨sP, cP, eP, vP⟩ := hg.out.pageT
      obtain ⟨sP1, cP1, eP1, vP1⟩ := K.out.2.pageT
      rw [hml.out.2.1] at eP vP
      rw [F.out.pl] at eP1 vP1
      have f22 : Hid (C[22]? = some (.slice sM 3232 cM) ∧ C1[22]? = some (.slice sM1 3232 cM1) ∧ C[21]? = some (.slice sP 256 cP) ∧ C1[21]? = some (.slice sP1 256 cP1)) := ⟨eM, eM1, eP, eP1⟩
      have lMM : Hid (LB w sM g.me ∧ LB y sM1 s1.me) := ⟨lM, lM1⟩
      have vPP : Hid ((∀ z, Below w.heap.size w z → (convert 22 9 (.slice sP 256 cP)).run Try.prog z = .ok (.string (sB g.pg)) z) ∧ (∀ z, Below y.heap.size y z → (convert 22 9 (.slice sP1 256 cP1)).run Try.prog z = .ok (.string (sB s1.pg)) z)) := ⟨vP, vP1⟩
      clear eM eM1 eP eP1 lM lM1 vP vP1
      have e22 := (K.out.1.bx 0 _ _ _ rfl).c 22 _ f22.out.1
      have e22' := (K.out.1.bx 4 _ _ _ rfl).c 22 _ f22.out.2.1
      have e21 := (K.out.1.bx 0 _ _ _ rfl).c 21 _ f22.out.2.2.1
      have e21' := (K.out.1.bx 4 _ _ _ rfl).c 21 _ f22.out.2.2.2
      go_wp2
      clear e22 e22' e21 e21'
      go_loopw [16] (fun kv wz => ∃ (k : Nat) (z : World), z = wz ∧ k ≤ 3232 ∧ kv = .int .i64 (k : Int) ∧ Hid (Below y.heap.size y z ∧ Fm w [(w.heap.size, C, 29), (w.heap.size + 1, D, 40), (w.heap.size + 2, (dCs d), 50), (bO, (o6 OD), 45), (bN, C1, 29)] z ∧ GO w.heap.size z C1 s1)) (fun kv _ => (3232 - intOf kv).toNat)
      case atStart => exact ⟨0, _, rfl, by omega, rfl, ⟨Below.refl _ _, K.out⟩⟩
      case round =>
        obtain ⟨k, z, rfl, hk, rfl, Kz⟩ := hrel
        have e22 := (Kz.out.2.1.bx 0 _ _ _ rfl).c 22 _ f22.out.1
        by_cases hlt : k < 3232
        · have hki : (k : Int) < 3232 := by omega
          have hlt' : Hid (k < 3232) := hlt
          obtain ⟨A, hA⟩ : ∃ x, 512 + k = x := ⟨_, rfl⟩
          have w1 : (512 : Int) + (k : Int) = (A : Int) := by omega
          have hA' : Hid (512 + k = A ∧ A < 100000) := ⟨hA, by omega⟩
          have hAi : (A : Int) < 100000 := by omega
          obtain ⟨gM, oM, rfl⟩ := lb_some lMM.out.1 (by rw [hml.out.1]; omega)
          obtain ⟨gM1, oM1, rfl⟩ := lb_some lMM.out.2 (by rw [F.out.ml]; omega)
          have ix1 := fun v => idxB .i64 gM oM 3232 cM k v hlt
          have ix2 := fun v => idxB .i64 gM1 oM1 3232 cM1 k v hlt
          have c1 : Hid (∀ u, Below w.heap.size w u → u.cell? ⟨gM, oM + k, none⟩ = some (.int .u8 ((g.me.getD k 0).toNat : Int))) := fun u h => lb_at (lMM.out.1.below h) k (by rw [hml.out.1]; exact hlt'.out)
          have c2 : Hid (∀ u, Below y.heap.size y u → u.cell? ⟨gM1, oM1 + k, none⟩ = some (.int .u8 ((s1.me.getD k 0).toNat : Int))) := fun u h => lb_at (lMM.out.2.below h) k (by rw [F.out.ml]; exact hlt'.out)
          obtain ⟨a1, ha1⟩ : ∃ x, (g.me.getD k 0).toNat = x := ⟨_, rfl⟩
          obtain ⟨a2, ha2⟩ : ∃ x, (s1.me.getD k 0).toNat = x := ⟨_, rfl⟩
          rw [ha1] at c1
          rw [ha2] at c2
          by_cases hq : a2 = a1
          · have r1 : ((a2 : Int) != (a1 : Int)) = false := by simp; omega
            obtain ⟨M, hM⟩ : ∃ b, Hid (lieG g OD A = b) := ⟨_, (rfl : lieG g OD A = _)⟩
            clear hk hlt ha1 ha2 hq hA
            go_wp2_with (first
              | (go_at_call 22; refine (lies_any z C g OD (hg.out.below Kz.out.2.1.low) OR.out A hA'.out.2).mono ?_; rintro e y2 ⟨rfl, H⟩; rw [hM.out]; have K2 : Hid (Below y.heap.size y y2 ∧ Fm w [(w.heap.size, C, 29), (w.heap.size + 1, D, 40), (w.heap.size + 2, (dCs d), 50), (bO, (o6 OD), 45), (bN, C1, 29)] y2 ∧ GO w.heap.size y2 C1 s1) := ⟨Kz.out.1.trans (H.mono Kz.out.1.size), Kz.out.2.1.below H, Kz.out.2.2.below H⟩; have d1 := c1.out _ K2.out.2.1.low; have d2 := c2.out _ K2.out.1; have b1 := (K2.out.2.1.bx 0 _ _ _ rfl).c 22 _ f22.out.1; have b2 := (K2.out.2.1.bx 4 _ _ _ rfl).c 22 _ f22.out.2.1; clear H e22)
              | ((with_reducible refine at_load rtO bO (o6 OD) ?_ ?_ (.tmp 9) ?_ ?_ ?_ ?_); exact Kz.out.2.1.bx 3 _ _ _ rfl; rfl; kernel_rfl; rfl; rfl)
              | ((with_reducible refine at_load rtG w.heap.size C ?_ ?_ (.tmp 3) ?_ ?_ ?_ ?_); exact Kz.out.2.1.bx 0 _ _ _ rfl; exact gC.out; kernel_rfl; rfl; rfl))
            go_quiet (fail)
            go_wp2
            go_roundw
            case rel => (repeat apply Exists.intro); exact ⟨⟨k + 1, _, rfl, hlt'.out, by simp, by first | exact (⟨below_drewN K2.out.1, K2.out.2.1.below (below_drewN (Below.refl _ _)), K2.out.2.2.below (below_drewN (Below.refl _ _))⟩ : _ ∧ _ ∧ _) | exact K2⟩, rfl⟩
            case measure => have := hlt'.out; simp [intOf]; omega
          · have r1 : ((a2 : Int) != (a1 : Int)) = true := by simp; omega
            have hM : Hid (lieG g OD A = true) := by
              show lieG g OD A = true
              rcases hb : lieG g OD A with _ | _
              · exact absurd (by rw [← ha1, ← ha2, F.out.me k (by rw [hA]; exact hb)]) hq
              · rfl
            clear hk hlt ha1 ha2 hq hA
            go_wp2_with (first
              | (go_at_call 22; refine (lies_any z C g OD (hg.out.below Kz.out.2.1.low) OR.out A hA'.out.2).mono ?_; rintro e y2 ⟨rfl, H⟩; rw [hM.out]; have K2 : Hid (Below y.heap.size y y2 ∧ Fm w [(w.heap.size, C, 29), (w.heap.size + 1, D, 40), (w.heap.size + 2, (dCs d), 50), (bO, (o6 OD), 45), (bN, C1, 29)] y2 ∧ GO w.heap.size y2 C1 s1) := ⟨Kz.out.1.trans (H.mono Kz.out.1.size), Kz.out.2.1.below H, Kz.out.2.2.below H⟩; have d1 := c1.out _ K2.out.2.1.low; have d2 := c2.out _ K2.out.1; have b1 := (K2.out.2.1.bx 0 _ _ _ rfl).c 22 _ f22.out.1; have b2 := (K2.out.2.1.bx 4 _ _ _ rfl).c 22 _ f22.out.2.1; clear H e22)
              | ((with_reducible refine at_load rtO bO (o6 OD) ?_ ?_ (.tmp 9) ?_ ?_ ?_ ?_); exact Kz.out.2.1.bx 3 _ _ _ rfl; rfl; kernel_rfl; rfl; rfl)
              | ((with_reducible refine at_load rtG w.heap.size C ?_ ?_ (.tmp 3) ?_ ?_ ?_ ?_); exact Kz.out.2.1.bx 0 _ _ _ rfl; exact gC.out; kernel_rfl; rfl; rfl))
            go_quiet (fail)
            go_wp2
            go_roundw
            case rel => (repeat apply Exists.intro); exact ⟨⟨k + 1, _, rfl, hlt'.out, by simp, by first | exact (⟨below_drewN K2.out.1, K2.out.2.1.below (below_drewN (Below.refl _ _)), K2.out.2.2.below (below_drewN (Below.refl _ _))⟩ : _ ∧ _ ∧ _) | exact K2⟩, rfl⟩
            case measure => have := hlt'.out; simp [intOf]; omega
        · obtain rfl : k = 3232 := by omega
          clear hk hlt
          obtain ⟨op, hop⟩ : ∃ x, OD.op = x := ⟨_, rfl⟩
          have hop' : Hid (OD.op = op) := hop
          have cop := (Kz.out.2.1.bx 3 _ _ _ rfl).c 0 (.int .u8 (OD.op : Int)) rfl
          rw [hop] at cop
          have e21 := (Kz.out.2.1.bx 0 _ _ _ rfl).c 21 _ f22.out.2.2.1
          have e21' := (Kz.out.2.1.bx 4 _ _ _ rfl).c 21 _ f22.out.2.2.2
          have v1 := vPP.out.1 z Kz.out.2.1.low
          have v2 := vPP.out.2 z Kz.out.1
          have c16 := (Kz.out.2.1.bx 0 _ _ _ rfl).c 16 _ hg.out.restT.1
          have c16' := (Kz.out.2.1.bx 4 _ _ _ rfl).c 16 _ Kz.out.2.2.lies.restT.1
          have c19 := (Kz.out.2.1.bx 0 _ _ _ rfl).c 19 _ hg.out.restT.2.2.1
          have c19' := (Kz.out.2.1.bx 4 _ _ _ rfl).c 19 _ Kz.out.2.2.lies.restT.2.2.1
          have c20 := (Kz.out.2.1.bx 0 _ _ _ rfl).c 20 _ hg.out.restT.2.2.2
          have c20' := (Kz.out.2.1.bx 4 _ _ _ rfl).c 20 _ Kz.out.2.2.lies.restT.2.2.2
          obtain ⟨X1, hX1⟩ : ∃ x, sB g.pg = x := ⟨_, rfl⟩
          obtain ⟨X2, hX2⟩ : ∃ x, sB s1.pg = x := ⟨_, rfl⟩
          obtain ⟨i1, hi1⟩ : ∃ x, g.i = x := ⟨_, rfl⟩
          obtain ⟨i2, hi2⟩ : ∃ x, s1.i = x := ⟨_, rfl⟩
          obtain ⟨d1, hd1⟩ : ∃ x, g.de.toNat = x := ⟨_, rfl⟩
          obtain ⟨d2, hd2⟩ : ∃ x, s1.de.toNat = x := ⟨_, rfl⟩
          obtain ⟨t1, ht1⟩ : ∃ x, g.so.toNat = x := ⟨_, rfl⟩
          obtain ⟨t2, ht2⟩ : ∃ x, s1.so.toNat = x := ⟨_, rfl⟩
          rw [hX1] at v1
          rw [hX2] at v2
          rw [hi1] at c16
          rw [hi2] at c16'
          rw [hd1] at c19
          rw [hd2] at c19'
          rw [ht1] at c20
          rw [ht2] at c20'
          have eqs : Hid ((op ≠ 2 → op ≠ 20 → (X2.toList == X1.toList) = true) ∧ (op ≠ 25 → ((d2 : Int) != (d1 : Int)) = false) ∧ (op ≠ 26 → ((t2 : Int) != (t1 : Int)) = false) ∧ (op ≠ 17 → op ≠ 27 → op ≠ 28 → op ≠ 30 → op ≠ 31 → ((i2 : Int) != (i1 : Int)) = false)) := by
            rw [← hop, ← hX1, ← hX2, ← hd1, ← hd2, ← ht1, ← ht2, ← hi1, ← hi2]
            exact ⟨fun a b => by rw [F.out.pg a b]; simp, fun a => by rw [F.out.de a]; simp, fun a => by rw [F.out.so a]; simp, fun a b c d e => by rw [F.out.i a b c d e]; simp⟩
          clear hop hX1 hX2 hi1 hi2 hd1 hd2 ht1 ht2
          go_upto_region 25 with (fail)
          go_cut [179] from 139 to 179 (fun b wz => z = wz ∧ b = .bool false)
          case first =>
            by_cases h2 : op = 2
            · subst h2
              have x2 := eqs.out.2.1 (by decide); have x3 := eqs.out.2.2.1 (by decide)
              go_wp2
              go_meet
              exact ⟨rfl, rfl⟩
            by_cases h20 : op = 20
            · subst h20
              have x2 := eqs.out.2.1 (by decide); have x3 := eqs.out.2.2.1 (by decide)
              go_wp2
              go_meet
              exact ⟨rfl, rfl⟩
            have x1 := eqs.out.1 h2 h20
            have n2 : ((op : Int) != 2) = true := by simp; omega
            have n20 : ((op : Int) != 20) = true := by simp; omega
            by_cases h25 : op = 25
            · subst h25
              have x3 := eqs.out.2.2.1 (by decide)
              go_wp2
              go_meet
              exact ⟨rfl, rfl⟩
            have x2 := eqs.out.2.1 h25
            have n25 : ((op : Int) != 25) = true := by simp; omega
            by_cases h26 : op = 26
            · subst h26
              go_wp2
              go_meet
              exact ⟨rfl, rfl⟩
            have x3 := eqs.out.2.2.1 h26
            have n26 : ((op : Int) != 26) = true := by simp; omega
            clear h2 h20 h25 h26
            go_wp2
            go_meet
            exact ⟨rfl, rfl⟩
          case rest =>
            obtain ⟨rfl, rfl⟩ := hcut
            go_upto_region 27 with (fail)
            go_cut [209] from 180 to 209 (fun b wz => z = wz ∧ b = .bool false)
            case first =>
              by_cases h17 : op = 17
              · subst h17
                go_wp2
                go_meet
                exact ⟨rfl, rfl⟩
              have n17 : ((op : Int) != 17) = true := by simp; omega
              by_cases h27 : op = 27
              · subst h27
                go_wp2
                go_meet
                exact ⟨rfl, rfl⟩
              have n27 : ((op : Int) != 27) = true := by simp; omega
              by_cases h28 : op = 28
              · subst h28
                go_wp2
                go_meet
                exact ⟨rfl, rfl⟩
              have n28 : ((op : Int) != 28) = true := by simp; omega
              by_cases h30 : op = 30
              · subst h30
                go_wp2
                go_meet
                exact ⟨rfl, rfl⟩
              have n30 : ((op : Int) != 30) = true := by simp; omega
              by_cases h31 : op = 31
              · subst h31
                go_wp2
                go_meet
                exact ⟨rfl, rfl⟩
              have n31 : ((op : Int) != 31) = true := by simp; omega
              have x4 := eqs.out.2.2.2 h17 h27 h28 h30 h31
              clear h17 h27 h28 h30 h31
              go_wp2
              go_meet
              exact ⟨rfl, rfl⟩
            case rest =>
              obtain ⟨rfl, rfl⟩ := hcut
              clear e22 e21 e21' v1 v2 c16 c16' c19 c19' c20 c20' eqs
              obtain ⟨sS, cS, eS, lS⟩ := hg.out.stT
              obtain ⟨sS1, cS1, eS1, lS1⟩ := Kz.out.2.2.lies.stT
              rw [F.out.sl] at eS1
              obtain ⟨n, hn⟩ : ∃ x, g.st.length = x := ⟨_, rfl⟩
              obtain ⟨cl, hcl⟩ : ∃ x, clsG g OD = x := ⟨_, rfl⟩
              rw [hn] at eS
              rw [hcl] at eS1
              have lSS : Hid (LW w sS g.st ∧ LW z sS1 s1.st) := ⟨lS, lS1⟩
              have eSS : Hid (C[18]? = some (.slice sS n cS) ∧ C1[18]? = some (.slice sS1 cl cS1)) := ⟨eS, eS1⟩
              have hcn : Hid (clsG g OD = cl ∧ g.st.length = n) := ⟨hcl, hn⟩
              have hn12 := hml.out.2.2
              have hcl12 := F.out.l12
              have ni : (n : Int) ≤ 12 := by omega
              have ci : (cl : Int) ≤ 12 := by omega
              have e18 := (Kz.out.2.1.bx 0 _ _ _ rfl).c 18 _ eS
              have e18' := (Kz.out.2.1.bx 4 _ _ _ rfl).c 18 _ eS1
              have r0 : ((cl : Int) != (cl : Int)) = false := by simp
              clear lS lS1 eS eS1 hn12 hcl12
              by_cases h5 : op = 5
              · have w5 : (n : Int) + 1 = (cl : Int) := by
                  have h := hop'.out
                  rw [← hcl, ← hn]; unfold clsG; rw [if_pos (by omega)]; simp
                have q5 : ((op : Int) == 5) = true := by simp; omega
                have q3' : ((op : Int) == 3) = false := by simp; omega
                clear h5 hn hcl
                go_wp2
                go_loopw [19] (fun kv wz => ∃ (k : Nat) (u : World), u = wz ∧ k ≤ min cl n ∧ kv = .int .i64 (k : Int) ∧ Hid (Below z.heap.size z u ∧ Fm w [(w.heap.size, C, 29), (w.heap.size + 1, D, 40), (w.heap.size + 2, (dCs d), 50), (bO, (o6 OD), 45), (bN, C1, 29)] u ∧ GO w.heap.size u C1 s1)) (fun kv _ => (cl - intOf kv).toNat)
                case atStart => exact ⟨0, _, rfl, Nat.zero_le _, rfl, ⟨Below.refl _ _, Kz.out.2⟩⟩
                case round =>
                  obtain ⟨k, u, rfl, hk, rfl, Ku⟩ := hrel
                  clear e18 e18'
                  have e18 := (Ku.out.2.1.bx 0 _ _ _ rfl).c 18 _ eSS.out.1
                  have e18' := (Ku.out.2.1.bx 4 _ _ _ rfl).c 18 _ eSS.out.2
                  by_cases hlt : k < cl ∧ k < n
                  · have hki : (k : Int) < (cl : Int) := by omega
                    have hkn : (k : Int) < (n : Int) := by omega
                    have hkd : decide ((k : Int) < (cl : Int)) = true := by simp; omega
                    have hlt' : Hid (k < cl ∧ k < n) := hlt
                    obtain ⟨gS, oS, rfl⟩ := lw_some lSS.out.1 (by have := hcn.out.2; omega)
                    obtain ⟨gS1, oS1, rfl⟩ := lw_some lSS.out.2 (by have := F.out.sl; have := hcn.out.1; omega)
                    have ix1 := fun v => idxW .i64 gS oS n cS k v hlt.2
                    have ix2 := fun v => idxW .i64 gS1 oS1 cl cS1 k v hlt.1
                    have a1 := lw_at (lSS.out.1.below Ku.out.2.1.low) k (by have := hcn.out.2; omega)
                    have a2 := lw_at (lSS.out.2.below Ku.out.1) k (by have := F.out.sl; have := hcn.out.1; omega)
                    rw [F.out.st k (by have := hcn.out.1; omega) (by have := hcn.out.2; omega)] at a2
                    obtain ⟨x, hx⟩ : ∃ x, g.st.getD k 0 = x := ⟨_, rfl⟩
                    rw [hx] at a1 a2
                    have r1 : ((x : Int) != (x : Int)) = false := by simp
                    clear hk hlt hx
                    go_wp2
                    go_quiet (fail)
                    go_wp2
                    go_roundw
                    case rel => exact ⟨k + 1, _, rfl, by have := hlt'.out; omega, by simp, by first | exact (⟨below_drewN Ku.out.1, Ku.out.2.1.below (below_drewN (Below.refl _ _)), Ku.out.2.2.below (below_drewN (Below.refl _ _))⟩ : _ ∧ _ ∧ _) | exact Ku⟩
                    case measure => have := hlt'.out; simp [intOf]; omega
                  · have c17 := (Ku.out.2.1.bx 4 _ _ _ rfl).c 17 _ Ku.out.2.2.lies.restT.2.1
                    by_cases h1 : k < cl
                    · have q7 : decide ((k : Int) < (cl : Int)) = true := by simp; omega
                      have q8 : decide ((k : Int) < (n : Int)) = false := by simp; omega
                      have h2 : ¬ k < n := by omega
                      clear hk hlt
                      go_wp2_with (first
                        | (go_at_call 23; refine (went_any u C g OD (hg.out.below Ku.out.2.1.low) OR.out (by have := hml.out.2.2; omega) s1.pc F.out.pc).mono ?_; rintro e y9 ⟨rfl, H9⟩)
                        | ((with_reducible refine at_load rtO bO (o6 OD) ?_ ?_ (.tmp 9) ?_ ?_ ?_ ?_); exact Ku.out.2.1.bx 3 _ _ _ rfl; rfl; kernel_rfl; rfl; rfl)
                        | ((with_reducible refine at_load rtG w.heap.size C ?_ ?_ (.tmp 3) ?_ ?_ ?_ ?_); exact Ku.out.2.1.bx 0 _ _ _ rfl; exact gC.out; kernel_rfl; rfl; rfl))
                      go_ret
                      exact ⟨rfl, Ku.out.2.1.low.trans (H9.mono Ku.out.2.1.low.size)⟩
                    · have q7 : decide ((k : Int) < (cl : Int)) = false := by simp; omega
                      clear hk hlt
                      go_wp2_with (first
                        | (go_at_call 23; refine (went_any u C g OD (hg.out.below Ku.out.2.1.low) OR.out (by have := hml.out.2.2; omega) s1.pc F.out.pc).mono ?_; rintro e y9 ⟨rfl, H9⟩)
                        | ((with_reducible refine at_load rtO bO (o6 OD) ?_ ?_ (.tmp 9) ?_ ?_ ?_ ?_); exact Ku.out.2.1.bx 3 _ _ _ rfl; rfl; kernel_rfl; rfl; rfl)
                        | ((with_reducible refine at_load rtG w.heap.size C ?_ ?_ (.tmp 3) ?_ ?_ ?_ ?_); exact Ku.out.2.1.bx 0 _ _ _ rfl; exact gC.out; kernel_rfl; rfl; rfl))
                      go_ret
                      exact ⟨rfl, Ku.out.2.1.low.trans (H9.mono Ku.out.2.1.low.size)⟩
              by_cases h3 : op = 3
              · have hn0 : 0 < n := by
                  have h := hop'.out
                  have hp := F.out.pc
                  unfold wntG at hp
                  rw [if_pos (by omega)] at hp
                  simp at hp
                  omega
                have w5 : (n : Int) - 1 = (cl : Int) := by
                  have h := hop'.out
                  rw [← hcl]; unfold clsG; rw [if_neg (by omega), if_pos (by omega), hn]; omega
                have q5 : ((op : Int) == 5) = false := by simp; omega
                have q3' : ((op : Int) == 3) = true := by simp; omega
                clear h5 h3 hn hcl hn0
                go_wp2
                go_loopw [19] (fun kv wz => ∃ (k : Nat) (u : World), u = wz ∧ k ≤ min cl n ∧ kv = .int .i64 (k : Int) ∧ Hid (Below z.heap.size z u ∧ Fm w [(w.heap.size, C, 29), (w.heap.size + 1, D, 40), (w.heap.size + 2, (dCs d), 50), (bO, (o6 OD), 45), (bN, C1, 29)] u ∧ GO w.heap.size u C1 s1)) (fun kv _ => (cl - intOf kv).toNat)
                case atStart => exact ⟨0, _, rfl, Nat.zero_le _, rfl, ⟨Below.refl _ _, Kz.out.2⟩⟩
                case round =>
                  obtain ⟨k, u, rfl, hk, rfl, Ku⟩ := hrel
                  clear e18 e18'
                  have e18 := (Ku.out.2.1.bx 0 _ _ _ rfl).c 18 _ eSS.out.1
                  have e18' := (Ku.out.2.1.bx 4 _ _ _ rfl).c 18 _ eSS.out.2
                  by_cases hlt : k < cl ∧ k < n
                  · have hki : (k : Int) < (cl : Int) := by omega
                    have hkn : (k : Int) < (n : Int) := by omega
                    have hkd : decide ((k : Int) < (cl : Int)) = true := by simp; omega
                    have hlt' : Hid (k < cl ∧ k < n) := hlt
                    obtain ⟨gS, oS, rfl⟩ := lw_some lSS.out.1 (by have := hcn.out.2; omega)
                    obtain ⟨gS1, oS1, rfl⟩ := lw_some lSS.out.2 (by have := F.out.sl; have := hcn.out.1; omega)
                    have ix1 := fun v => idxW .i64 gS oS n cS k v hlt.2
                    have ix2 := fun v => idxW .i64 gS1 oS1 cl cS1 k v hlt.1
                    have a1 := lw_at (lSS.out.1.below Ku.out.2.1.low) k (by have := hcn.out.2; omega)
                    have a2 := lw_at (lSS.out.2.below Ku.out.1) k (by have := F.out.sl; have := hcn.out.1; omega)
                    rw [F.out.st k (by have := hcn.out.1; omega) (by have := hcn.out.2; omega)] at a2
                    obtain ⟨x, hx⟩ : ∃ x, g.st.getD k 0 = x := ⟨_, rfl⟩
                    rw [hx] at a1 a2
                    have r1 : ((x : Int) != (x : Int)) = false := by simp
                    clear hk hlt hx
                    go_wp2
                    go_quiet (fail)
                    go_wp2
                    go_roundw
                    case rel => exact ⟨k + 1, _, rfl, by have := hlt'.out; omega, by simp, by first | exact (⟨below_drewN Ku.out.1, Ku.out.2.1.below (below_drewN (Below.refl _ _)), Ku.out.2.2.below (below_drewN (Below.refl _ _))⟩ : _ ∧ _ ∧ _) | exact Ku⟩
                    case measure => have := hlt'.out; simp [intOf]; omega
                  · have c17 := (Ku.out.2.1.bx 4 _ _ _ rfl).c 17 _ Ku.out.2.2.lies.restT.2.1
                    by_cases h1 : k < cl
                    · exact absurd hlt (by omega)
                    · have q7 : decide ((k : Int) < (cl : Int)) = false := by simp; omega
                      clear hk hlt
                      go_wp2_with (first
                        | (go_at_call 23; refine (went_any u C g OD (hg.out.below Ku.out.2.1.low) OR.out (by have := hml.out.2.2; omega) s1.pc F.out.pc).mono ?_; rintro e y9 ⟨rfl, H9⟩)
                        | ((with_reducible refine at_load rtO bO (o6 OD) ?_ ?_ (.tmp 9) ?_ ?_ ?_ ?_); exact Ku.out.2.1.bx 3 _ _ _ rfl; rfl; kernel_rfl; rfl; rfl)
                        | ((with_reducible refine at_load rtG w.heap.size C ?_ ?_ (.tmp 3) ?_ ?_ ?_ ?_); exact Ku.out.2.1.bx 0 _ _ _ rfl; exact gC.out; kernel_rfl; rfl; rfl))
                      go_ret
                      exact ⟨rfl, Ku.out.2.1.low.trans (H9.mono Ku.out.2.1.low.size)⟩
              · have w5 : n = cl := by
                  have h := hop'.out
                  rw [← hcl, ← hn]; unfold clsG; rw [if_neg (by omega), if_neg (by omega)]
                subst w5
                have q5 : ((op : Int) == 5) = false := by simp; omega
                have q3' : ((op : Int) == 3) = false := by simp; omega
                clear h5 h3 hn hcl
                go_wp2
                go_loopw [19] (fun kv wz => ∃ (k : Nat) (u : World), u = wz ∧ k ≤ min n n ∧ kv = .int .i64 (k : Int) ∧ Hid (Below z.heap.size z u ∧ Fm w [(w.heap.size, C, 29), (w.heap.size + 1, D, 40), (w.heap.size + 2, (dCs d), 50), (bO, (o6 OD), 45), (bN, C1, 29)] u ∧ GO w.heap.size u C1 s1)) (fun kv _ => (n - intOf kv).toNat)
                case atStart => exact ⟨0, _, rfl, Nat.zero_le _, rfl, ⟨Below.refl _ _, Kz.out.2⟩⟩
                case round =>
                  obtain ⟨k, u, rfl, hk, rfl, Ku⟩ := hrel
                  clear e18 e18'
                  have e18 := (Ku.out.2.1.bx 0 _ _ _ rfl).c 18 _ eSS.out.1
                  have e18' := (Ku.out.2.1.bx 4 _ _ _ rfl).c 18 _ eSS.out.2
                  by_cases hlt : k < n ∧ k < n
                  · have hki : (k : Int) < (n : Int) := by omega
                    have hkn : (k : Int) < (n : Int) := by omega
                    have hkd : decide ((k : Int) < (n : Int)) = true := by simp; omega
                    have hlt' : Hid (k < n ∧ k < n) := hlt
                    obtain ⟨gS, oS, rfl⟩ := lw_some lSS.out.1 (by have := hcn.out.2; omega)
                    obtain ⟨gS1, oS1, rfl⟩ := lw_some lSS.out.2 (by have := F.out.sl; have := hcn.out.1; omega)
                    have ix1 := fun v => idxW .i64 gS oS n cS k v hlt.2
                    have ix2 := fun v => idxW .i64 gS1 oS1 n cS1 k v hlt.1
                    have a1 := lw_at (lSS.out.1.below Ku.out.2.1.low) k (by have := hcn.out.2; omega)
                    have a2 := lw_at (lSS.out.2.below Ku.out.1) k (by have := F.out.sl; have := hcn.out.1; omega)
                    rw [F.out.st k (by have := hcn.out.1; omega) (by have := hcn.out.2; omega)] at a2
                    obtain ⟨x, hx⟩ : ∃ x, g.st.getD k 0 = x := ⟨_, rfl⟩
                    rw [hx] at a1 a2
                    have r1 : ((x : Int) != (x : Int)) = false := by simp
                    clear hk hlt hx
                    go_wp2
                    go_quiet (fail)
                    go_wp2
                    go_roundw
                    case rel => exact ⟨k + 1, _, rfl, by have := hlt'.out; omega, by simp, by first | exact (⟨below_drewN Ku.out.1, Ku.out.2.1.below (below_drewN (Below.refl _ _)), Ku.out.2.2.below (below_drewN (Below.refl _ _))⟩ : _ ∧ _ ∧ _) | exact Ku⟩
                    case measure => have := hlt'.out; simp [intOf]; omega
                  · have c17 := (Ku.out.2.1.bx 4 _ _ _ rfl).c 17 _ Ku.out.2.2.lies.restT.2.1
                    by_cases h1 : k < n
                    · exact absurd hlt (by omega)
                    · have q7 : decide ((k : Int) < (n : Int)) = false := by simp; omega
                      clear hk hlt
                      go_wp2_with (first
                        | (go_at_call 23; refine (went_any u C g OD (hg.out.below Ku.out.2.1.low) OR.out (by have := hml.out.2.2; omega) s1.pc F.out.pc).mono ?_; rintro e y9 ⟨rfl, H9⟩)
                        | ((with_reducible refine at_load rtO bO (o6 OD) ?_ ?_ (.tmp 9) ?_ ?_ ?_ ?_); exact Ku.out.2.1.bx 3 _ _ _ rfl; rfl; kernel_rfl; rfl; rfl)
                        | ((with_reducible refine at_load rtG w.heap.size C ?_ ?_ (.tmp 3) ?_ ?_ ?_ ?_); exact Ku.out.2.1.bx 0 _ _ _ rfl; exact gC.out; kernel_rfl; rfl; rfl))
                      go_ret
                      exact ⟨rfl, Ku.out.2.1.low.trans (H9.mono Ku.out.2.1.low.size)⟩

theorem touches_walk (w : World) (C D : Array Value) (g : Gm) (f : Fo) (d : Fd) (hg : GL w C g) (hf : FL w D f) (hd : d.Ok) :
    Calls Try.prog 5 #[.agg C, .agg D, .agg (dCs d)] w fun e w' => e = .returned (.bool true) ∧ Below w.heap.size w w' := by
  rcases hv : vasG g.st.length g.pg.length g.me.length f.by_.length with _ | _
  · have hs : smaG g f := by
      unfold vasG at hv
      unfold smaG
      simpa using hv
    rcases hm : g.may with _ | _
    · exact touches_bad w C D g f d hg hf hd hv hm
    · obtain ⟨⟨OD, nx⟩, hnx⟩ : ∃ x, nextG g = x := ⟨_, rfl⟩
      obtain ⟨⟨s1, o1, e1⟩, hs1⟩ : ∃ x, stepG g f d = x := ⟨_, rfl⟩
      have he : e1 = 0 ∨ e1 = 1 := by
        have := step_err g f d hm
        rw [hs1] at this
        exact this
      rcases he with he | he
      · have hok := step_ok (g := g) (f := f) (d := d) (by rw [hs1]; exact he)
        by_cases hx : nx = 1
        · by_cases ho : o1 = 1
          · subst hx; subst ho; subst he
            refine touches_done w C D g f d hg hf hd hv hm hs OD 1 hnx s1 1 0 hs1 rfl rfl rfl (tch_of hnx hs1) ?_
            have hdn := next_done (g := g) (by rw [hnx])
            rw [hnx] at hdn
            rw [show OD = decO (wordG g) from hdn.2.2.2.2.1]
            exact (by have h := dec_ok (wordG g); have h2 := dec_op (wordG g) hdn.2.2.2.1; exact ⟨by omega, by have := h.x; omega, by have := h.y; omega, by have := h.n; omega, h.b, h.a⟩)
          · exact touches_not w C D g f d hg hf hd hv hm hs OD nx hnx s1 o1 e1 hs1 he hx ho
        · refine touches_nx w C D g f d hg hf hd hv hm hs OD nx hnx s1 o1 e1 hs1 he hx ?_
          have h1 : (nextG g).2 ≠ 1 := by rw [hnx]; exact hx
          unfold stepG at hs1
          rw [if_pos hm, if_pos (by simp [hok.2.1, hok.2.2]), if_neg h1, hnx] at hs1
          injection hs1 with _ hs1
          injection hs1 with hs1 _
          exact hs1.symm
      · by_cases hx : nx = 1
        · exact touches_err1 w C D g f d hg hf hd hv hm hs OD nx hnx s1 o1 e1 hs1 he hx
        · exact touches_err2 w C D g f d hg hf hd hv hm hs OD nx hnx s1 o1 e1 hs1 he hx
  · exact touches_vast w C D g f d hg hf hd hv
end Go.Proofs.Ytigiebfdaiccdaa
