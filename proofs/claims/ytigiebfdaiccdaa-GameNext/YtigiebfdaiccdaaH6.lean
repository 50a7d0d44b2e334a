/- GameNext: whether a machine may be, and the order at PC. -/
import Derived.Test.YtigiebfdaiccdaaH6n
namespace Go.Proofs.Ytigiebfdaiccdaa
open Go Go.RowKit Go.Shelf
set_option linter.unusedVariables false
set_option maxHeartbeats 1000000
set_option maxRecDepth 20000

theorem eqOx (a b : Od) : Eqs Try.prog 45 (o6 a) (o6 b) (a.same b) := ⟨by kernel_rfl, fun w => by
  unfold o6
  go_simp
  unfold Od.same
  (repeat' split) <;> simp_all <;> omega⟩
theorem LG.weak {B B' : Nat} {w : World} {C : Array Value} {g : Gm} {b1 b2 b3 : Nat} (h : LG B w C g b1 b2 b3) (hB : B' ≤ B) : LG B' w C g b1 b2 b3 :=
  ⟨h.c, h.s, h.p, h.m, ⟨Nat.le_trans hB h.ge.1, Nat.le_trans hB h.ge.2.1, Nat.le_trans hB h.ge.2.2⟩, h.ne, h.ok⟩
/-- Boxes stay where a machine that was lent is written over. -/
theorem Fm.lg {w y z : World} {l : List (Nat × Array Value × TypeId)} {B : Nat} {C : Array Value} {g : Gm} {b1 b2 b3 : Nat} (h : Fm w l y) (hL : LG B y C g b1 b2 b3) (u : CuL w.heap.size (fun q _ => q = b1 ∨ q = b2 ∨ q = b3) y z) (hl : ∀ (i b : Nat) (c : Array Value) (t : TypeId), l[i]? = some (b, c, t) → t ≠ 5 ∧ t ≠ 26) : Fm w l z := by
  refine ⟨fun i b c t e => ?_, h.ge, h.ne, h.low.trans u.low⟩
  have h0 := h.get i b c t e
  have ht := hl i b c t e
  refine (u.blk b (heap_lt h0) fun j e2 => ?_).trans h0
  rcases e2 with e2 | e2 | e2
  · exact Bx.unlike (show Bx y b c t from h0) hL.s ht.2 e2
  · exact Bx.unlike (show Bx y b c t from h0) hL.p ht.1 e2
  · exact Bx.unlike (show Bx y b c t from h0) hL.m ht.1 e2
theorem l3_ok {w1 w2 w3 : Nat} {c1 c2 c3 : Array Value} : ∀ (i b : Nat) (c : Array Value) (t : TypeId), [(w1, c1, 29), (w2, c2, 29), (w3, c3, 45)][i]? = some (b, c, t) → t ≠ 5 ∧ t ≠ 26 := by
  intro i b c t h
  match i with
  | 0 => simp at h; rw [← h.2.2]; decide
  | 1 => simp at h; rw [← h.2.2]; decide
  | 2 => simp at h; rw [← h.2.2]; decide
  | i + 3 => simp at h
theorem next_vast (w : World) (C : Array Value) (g : Gm) (hg : Hid (GL w C g)) (hv : Hid (vasG g.st.length g.pg.length g.me.length 0 = true)) :
    Calls Try.prog 4 #[.agg C] w fun e w' => e = .returned (.bool true) ∧ Below w.heap.size w w' := by
  have gC : Hid (C.size = 23) := hg.out.size.1
  go_enter Try.func4, Try.ntmps4
  go_wp2_with (first
    | (go_at_call 13; refine (vast_gl y1 C #[.int .u16 0, .int .u16 0, .int .u16 0, .int .u16 0, .int .u16 0, .int .u16 0, .int .u16 0, .int .u16 0, .int .u16 0, .int .u16 0, .int .u16 0, .int .u16 0, .int .u16 0, .int .u16 0, .int .u16 0, .int .u16 0, .int .u16 0, .slice none 0 0] g fo0 (hg.out.below K1.out.low) (fo0_fl y1)).mono ?_; rintro e y2 ⟨rfl, H⟩; have K2 : Hid (Fm w [(w.heap.size, C, 29)] y2) := K1.out.below H; rw [show vasG g.st.length g.pg.length g.me.length fo0.by_.length = true from hv.out]; clear H)
    | (go_at_call 6; refine (awake_any y0).mono ?_; rintro e y1 ⟨rfl, H⟩; have K1 : Hid (Fm w [(w.heap.size, C, 29)] y1) := K0.out.below H; clear H)
    | ((with_reducible refine at_bu #[] [] #[.int .u16 0, .int .u16 0, .int .u16 0, .int .u16 0, .int .u16 0, .int .u16 0, .int .u16 0, .int .u16 0, .int .u16 0, .int .u16 0, .int .u16 0, .int .u16 0, .int .u16 0, .int .u16 0, .int .u16 0, .int .u16 0, .int .u16 0, .slice none 0 0] ?_ ?_ ?_ builtF0 ?_); kernel_rfl; rfl; rfl)
    | ((with_reducible refine gen_world (w.alloc (.cells C 29)) (Fm w [(w.heap.size, C, 29)]) ?_ ?_); exact Fm.one w _ _; intro y0 K0)
    | ((with_reducible refine at_load rtG w.heap.size C ?_ ?_ (.tmp 1) ?_ ?_ ?_ ?_); exact K1.out.bx 0 _ _ _ rfl; exact gC.out; kernel_rfl; rfl; rfl))
  go_ret
  exact ⟨rfl, K2.out.low⟩
theorem next_fit (w : World) (C : Array Value) (g : Gm) (hg : Hid (GL w C g)) (hv : Hid (vasG g.st.length g.pg.length g.me.length 0 = false)) (hn : Hid (g.st.length ≤ 2147483647 ∧ g.pg.length ≤ 2147483647 ∧ g.me.length ≤ 2147483647)) (OD : Od) (nx : Nat) (hnx : Hid (nextG g = (OD, nx))) :
    Calls Try.prog 4 #[.agg C] w fun e w' => e = .returned (.bool true) ∧ Below w.heap.size w w' := by
  have gC : Hid (C.size = 23) := hg.out.size.1
  obtain ⟨E, hE⟩ : ∃ x : Int, Hid ((if g.may = true then (0 : Int) else 180) = x) := ⟨_, (rfl : (if g.may = true then (0 : Int) else 180) = _)⟩
  have qE : (E == E) = true := by simp
  have qN : ((nx : Int) == (nx : Int)) = true := by simp
  have eO : Hid (Eqs Try.prog 45 (o6 OD) (o6 OD) true) := by
    have := eqOx OD OD
    rw [show OD.same OD = true from Od.same_iff.2 rfl] at this
    exact this
  have hgu : Hid (∀ (y u : World) (b1 b2 b3 : Nat), Below w.heap.size w y → CuL w.heap.size (fun q _ => q = b1 ∨ q = b2 ∨ q = b3) y u → GL u C g) := fun y u b1 b2 b3 hb hu => hg.out.below (hb.trans hu.low)
  go_enter Try.func4, Try.ntmps4
  go_wp2_with (first
    | ((with_reducible refine at_eq eO.out (.tmp 45) (.tmp 46) 45 ?_ ?_ ?_ ?_ ?_); kernel_rfl; rfl; rfl; rfl)
    | ((with_reducible refine at_st rtO y12.heap.size #[.int .u8 0, .int .u8 0, .int .u8 0, .int .u8 0, .int .u8 0, .int .u16 0] (o6 OD) ?_ ?_ ?_ ?_ (.tmp 10) (.tmp 33) ?_ ?_ ?_ ?_ ?_); exact K13.out.bx 3 _ _ _ rfl; rfl; rfl; exact o6_one OD; rfl; rfl; rfl; rfl; intro y14 H14; have K14 : Hid (Fm w [(w.heap.size, C, 29), (y3.heap.size, C2, 29), (y7.heap.size, (o6 OD), 45), (y12.heap.size, (o6 OD), 45)] y14) := K13.out.put 3 _ _ _ _ rfl H14.out; clear H14)
    | ((with_reducible refine gen_world (y12.alloc (.cells #[.int .u8 0, .int .u8 0, .int .u8 0, .int .u8 0, .int .u8 0, .int .u16 0] 45)) (Fm w [(w.heap.size, C, 29), (y3.heap.size, C2, 29), (y7.heap.size, (o6 OD), 45), (y12.heap.size, #[.int .u8 0, .int .u8 0, .int .u8 0, .int .u8 0, .int .u8 0, .int .u16 0], 45)]) ?_ ?_); exact K12.out.new _ _; intro y13 K13)
    | (go_at_call 19; refine (rnext_any y11 C g (hg.out.below K11.out.low)).mono ?_; rintro e y12 ⟨rfl, H⟩; have K12 : Hid (Fm w [(w.heap.size, C, 29), (y3.heap.size, C2, 29), (y7.heap.size, (o6 OD), 45)] y12) := K11.out.below H; (simp only [hnx.out]); clear H)
    | (go_at_call 18; refine (rcheck_gl y10 C g (hg.out.below K10.out.low)).mono ?_; rintro e y11 ⟨rfl, H⟩; have K11 : Hid (Fm w [(w.heap.size, C, 29), (y3.heap.size, C2, 29), (y7.heap.size, (o6 OD), 45)] y11) := K10.out.below H; rw [hE.out]; clear H)
    | (go_at_call 17; refine (keptG_any y9 w.heap.size C C2 g b1 b2 b3 K9.out.2 (fun u hu => hgu.out y9 u b1 b2 b3 K9.out.1.low hu) (K9.out.1.low.size : w.heap.size ≤ y9.heap.size) hn.out.1 hn.out.2.1 hn.out.2.2).mono ?_; rintro e y10 ⟨rfl, H⟩; have K10 : Hid (Fm w [(w.heap.size, C, 29), (y3.heap.size, C2, 29), (y7.heap.size, (o6 OD), 45)] y10) := K9.out.1.lg K9.out.2 H.out l3_ok; clear H)
    | ((with_reducible refine at_st rtO y7.heap.size #[.int .u8 0, .int .u8 0, .int .u8 0, .int .u8 0, .int .u8 0, .int .u16 0] (o6 OD) ?_ ?_ ?_ ?_ (.tmp 6) (.tmp 23) ?_ ?_ ?_ ?_ ?_); exact K8.out.1.bx 2 _ _ _ rfl; rfl; rfl; exact o6_one OD; rfl; rfl; rfl; rfl; intro y9 H9; have K9 : Hid (Fm w [(w.heap.size, C, 29), (y3.heap.size, C2, 29), (y7.heap.size, (o6 OD), 45)] y9 ∧ LG w.heap.size y9 C2 g b1 b2 b3) := ⟨K8.out.1.put 2 _ _ _ _ rfl H9.out, K8.out.2.offT (K8.out.1.bx 2 _ _ _ rfl) (by decide) (by decide) H9.out.2.2⟩; clear H9)
    | ((with_reducible refine gen_world (y7.alloc (.cells #[.int .u8 0, .int .u8 0, .int .u8 0, .int .u8 0, .int .u8 0, .int .u16 0] 45)) (fun y => Fm w [(w.heap.size, C, 29), (y3.heap.size, C2, 29), (y7.heap.size, #[.int .u8 0, .int .u8 0, .int .u8 0, .int .u8 0, .int .u8 0, .int .u16 0], 45)] y ∧ LG w.heap.size y C2 g b1 b2 b3) ?_ ?_); exact ⟨K7.out.1.new _ _, K7.out.2.below (below1 y7 _)⟩; intro y8 K8)
    | (go_at_call 16; refine (next_any y6 C2 g K6.out.2.lies).mono ?_; rintro e y7 ⟨rfl, H⟩; have K7 : Hid (Fm w [(w.heap.size, C, 29), (y3.heap.size, C2, 29)] y7 ∧ LG w.heap.size y7 C2 g b1 b2 b3) := ⟨K6.out.1.below H, K6.out.2.below H⟩; (simp only [hnx.out]); clear H)
    | (go_at_call 15; refine (check_gl y5 C2 g K5.out.2.lies).mono ?_; rintro e y6 ⟨rfl, H⟩; have K6 : Hid (Fm w [(w.heap.size, C, 29), (y3.heap.size, C2, 29)] y6 ∧ LG w.heap.size y6 C2 g b1 b2 b3) := ⟨K5.out.1.below H, K5.out.2.below H⟩; rw [hE.out]; clear H)
    | ((with_reducible refine at_st rtG y3.heap.size #[.int .u8 0, .int .u8 0, .int .u8 0, .int .u8 0, .int .u8 0, .int .u8 0, .int .u8 0, .int .u8 0, .int .u8 0, .int .u8 0, .int .u8 0, .int .u8 0, .int .u8 0, .int .u8 0, .int .u8 0, .int .u8 0, .int .u16 0, .int .u16 0, .slice none 0 0, .int .u8 0, .int .u8 0, .slice none 0 0, .slice none 0 0] C2 ?_ ?_ ?_ ?_ (.tmp 4) (.tmp 17) ?_ ?_ ?_ ?_ ?_); exact K4.out.1.bx 1 _ _ _ rfl; rfl; exact K4.out.2.lies.size.1; exact K4.out.2.lies.size.2.1; rfl; rfl; rfl; rfl; intro y5 H5; have K5 : Hid (Fm w [(w.heap.size, C, 29), (y3.heap.size, C2, 29)] y5 ∧ LG w.heap.size y5 C2 g b1 b2 b3) := ⟨K4.out.1.put 1 _ _ _ _ rfl H5.out, K4.out.2.offT (K4.out.1.bx 1 _ _ _ rfl) (by decide) (by decide) H5.out.2.2⟩; clear H5)
    | ((with_reducible refine gen_world (y3.alloc (.cells #[.int .u8 0, .int .u8 0, .int .u8 0, .int .u8 0, .int .u8 0, .int .u8 0, .int .u8 0, .int .u8 0, .int .u8 0, .int .u8 0, .int .u8 0, .int .u8 0, .int .u8 0, .int .u8 0, .int .u8 0, .int .u8 0, .int .u16 0, .int .u16 0, .slice none 0 0, .int .u8 0, .int .u8 0, .slice none 0 0, .slice none 0 0] 29)) (fun y => Fm w [(w.heap.size, C, 29), (y3.heap.size, #[.int .u8 0, .int .u8 0, .int .u8 0, .int .u8 0, .int .u8 0, .int .u8 0, .int .u8 0, .int .u8 0, .int .u8 0, .int .u8 0, .int .u8 0, .int .u8 0, .int .u8 0, .int .u8 0, .int .u8 0, .int .u8 0, .int .u16 0, .int .u16 0, .slice none 0 0, .int .u8 0, .int .u8 0, .slice none 0 0, .slice none 0 0], 29)] y ∧ LG w.heap.size y C2 g b1 b2 b3) ?_ ?_); exact ⟨K3.out.1.new _ _, K3.out.2.below (below1 y3 _)⟩; intro y4 K4)
    | (go_at_call 14; refine (lentG_any y2 C g (hg.out.below K2.out.low) hn.out.1 hn.out.2.1 hn.out.2.2).mono ?_; rintro e y3 ⟨C2, b1, b2, b3, rfl, H⟩; have K3 : Hid (Fm w [(w.heap.size, C, 29)] y3 ∧ LG w.heap.size y3 C2 g b1 b2 b3) := ⟨K2.out.below H.out.2, H.out.1.weak K2.out.low.size⟩; clear H)
    | (go_at_call 13; refine (vast_gl y1 C #[.int .u16 0, .int .u16 0, .int .u16 0, .int .u16 0, .int .u16 0, .int .u16 0, .int .u16 0, .int .u16 0, .int .u16 0, .int .u16 0, .int .u16 0, .int .u16 0, .int .u16 0, .int .u16 0, .int .u16 0, .int .u16 0, .int .u16 0, .slice none 0 0] g fo0 (hg.out.below K1.out.low) (fo0_fl y1)).mono ?_; rintro e y2 ⟨rfl, H⟩; have K2 : Hid (Fm w [(w.heap.size, C, 29)] y2) := K1.out.below H; rw [show vasG g.st.length g.pg.length g.me.length fo0.by_.length = false from hv.out]; clear H)
    | (go_at_call 6; refine (awake_any y0).mono ?_; rintro e y1 ⟨rfl, H⟩; have K1 : Hid (Fm w [(w.heap.size, C, 29)] y1) := K0.out.below H; clear H)
    | ((with_reducible refine at_bu #[] [] #[.int .u16 0, .int .u16 0, .int .u16 0, .int .u16 0, .int .u16 0, .int .u16 0, .int .u16 0, .int .u16 0, .int .u16 0, .int .u16 0, .int .u16 0, .int .u16 0, .int .u16 0, .int .u16 0, .int .u16 0, .int .u16 0, .int .u16 0, .slice none 0 0] ?_ ?_ ?_ builtF0 ?_); kernel_rfl; rfl; rfl)
    | ((with_reducible refine gen_world (w.alloc (.cells C 29)) (Fm w [(w.heap.size, C, 29)]) ?_ ?_); exact Fm.one w _ _; intro y0 K0)
    | ((with_reducible refine at_load rtG w.heap.size C ?_ ?_ (.tmp 1) ?_ ?_ ?_ ?_); (first | exact K11.out.bx 0 _ _ _ rfl | exact K10.out.bx 0 _ _ _ rfl | exact K9.out.1.bx 0 _ _ _ rfl | exact K2.out.bx 0 _ _ _ rfl | exact K1.out.bx 0 _ _ _ rfl); exact gC.out; kernel_rfl; rfl; rfl)
    | ((with_reducible refine at_load rtG y3.heap.size C2 ?_ ?_ (.tmp 4) ?_ ?_ ?_ ?_); (first | exact K9.out.1.bx 1 _ _ _ rfl | exact K6.out.1.bx 1 _ _ _ rfl | exact K5.out.1.bx 1 _ _ _ rfl); exact K5.out.2.size; kernel_rfl; rfl; rfl)
    | ((with_reducible refine at_load rtO y7.heap.size (o6 OD) ?_ ?_ (.tmp 6) ?_ ?_ ?_ ?_); exact K14.out.bx 2 _ _ _ rfl; rfl; kernel_rfl; rfl; rfl)
    | ((with_reducible refine at_load rtO y12.heap.size (o6 OD) ?_ ?_ (.tmp 10) ?_ ?_ ?_ ?_); exact K14.out.bx 3 _ _ _ rfl; rfl; kernel_rfl; rfl; rfl))
  go_ret
  exact ⟨rfl, K14.out.low⟩
theorem next_walk (w : World) (C : Array Value) (g : Gm) (hg : GL w C g) :
    Calls Try.prog 4 #[.agg C] w fun e w' => e = .returned (.bool true) ∧ Below w.heap.size w w' := by
  rcases hv : vasG g.st.length g.pg.length g.me.length 0 with _ | _
  · obtain ⟨⟨OD, nx⟩, hnx⟩ : ∃ x, nextG g = x := ⟨_, rfl⟩
    refine next_fit w C g hg hv ?_ OD nx hnx
    unfold vasG at hv
    simp at hv
    exact ⟨by omega, by omega, by omega⟩
  · exact next_vast w C g hg hv
end Go.Proofs.Ytigiebfdaiccdaa
