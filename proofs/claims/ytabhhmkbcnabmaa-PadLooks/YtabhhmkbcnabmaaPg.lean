/- The examples, as the statements ask them; what is told of the latch and of its next. -/
import Derived.Test.YtabhhmkbcnabmaaPc
import Derived.Test.YtabhhmkbcnabmaaPf
namespace Go.Proofs.Ytabhhmkbcnabmaa
open Go Go.RowKit
set_option linter.unusedVariables false
set_option maxHeartbeats 400000
set_option maxRecDepth 20000

theorem eqPd (x y : Int) : Eqs Try.prog 23 (padC x) (padC y) (x == y) := ⟨by kernel_rfl, fun w => by unfold padC; go_simp; by_cases h : x = y <;> simp [h]⟩
/-- The keys 0 and 15, and what stays of them. -/
structure Aw (w : World) (g : Nat) (l : List (Nat × Array Value × TypeId)) (y : World) : Prop where
  fm : Fm w l y
  c : y.cell? ⟨g, 1, none⟩ = some (.int .i64 15)
theorem Aw.below {w y z : World} {g : Nat} {l : List (Nat × Array Value × TypeId)} (h : Aw w g l y) (hb : Below y.heap.size y z) : Aw w g l z :=
  ⟨h.fm.below hb, (hb.cell (p := ⟨g, 1, none⟩) (World.block_lt_of_cell? y _ h.c)).trans h.c⟩
theorem Aw.new {w y : World} {g : Nat} {l : List (Nat × Array Value × TypeId)} (h : Aw w g l y) (cs : Array Value) (t : TypeId) : Aw w g (l ++ [(y.heap.size, cs, t)]) (y.alloc (.cells cs t)) :=
  ⟨h.fm.new cs t, (h.below (below1 y _)).c⟩
theorem Aw.putP {w y y' : World} {g b : Nat} {l : List (Nat × Array Value × TypeId)} {i : Nat} {cs cs' : Array Value} {t : TypeId} (h : Aw w g l y) (hi : l[i]? = some (b, cs, t)) (hgb : g ≠ b) (k : y'.heap[b]? = some (.cells cs' t (0, 0)) ∧ (∀ B, B ≤ b → Below B y y') ∧ ∀ q, q ≠ b → y'.heap[q]? = y.heap[q]?) : Aw w g (l.set i (b, cs', t)) y' :=
  ⟨h.fm.put i b cs cs' t hi k, (World.cell?_of_block (w := y) (a := ⟨g, 1, none⟩) (k.2.2 g hgb)).trans h.c⟩
theorem keys_wake {w y : World} {v : Value} (h : KeysI w 32769 16 v y) : ∃ g cap, v = .slice (some ⟨g, 0, none⟩) 2 cap ∧ Aw w g [] y := by
  have e : keysI 32769 16 = [0, 15] := by decide +kernel
  obtain ⟨h1, h2⟩ := h
  rw [e] at h1
  obtain ⟨sp, cap, rfl, hl, _⟩ := h1.slice
  obtain ⟨g, o, rfl, c⟩ := hl 1 15 rfl
  have h0 := h1
  rcases h1.2 with ⟨hv, _⟩ | ⟨g', cap', cur, hv, _⟩
  · simp at hv
  · simp at hv
    obtain ⟨⟨rfl, rfl⟩, rfl⟩ := hv
    exact ⟨g, cap, rfl, ⟨⟨fun _ _ _ _ h => by simp at h, fun _ _ _ _ h => by simp at h, fun _ _ _ _ _ _ _ h => by simp at h, h2⟩, c⟩⟩
def wakeP : Pd := ⟨0, 0, true, false, false, 0, 2, false⟩
theorem awake_any (w : World) : Calls Try.prog 9 #[] w fun e w' => e = .returned (.bool true) ∧ Below w.heap.size w w' := by
  have zz := zeroVP
  have hK : ∀ v, Calls Try.prog 13 #[.int .u16 32769] v fun e w' => ∃ g cap, e = .returned (.slice (some ⟨g, 0, none⟩) 2 cap) ∧ Hid (Aw v g [] w') := fun v => (keys_any v 32769 (by decide)).mono fun e w' ⟨u, he, hk⟩ => by
    obtain ⟨g, cap, rfl, ha⟩ := keys_wake hk.out
    exact ⟨g, cap, he, ha⟩
  have hM : ∀ (y : World) (b : Nat), Bx y b #[.int .i64 4, .int .i64 0, .int .i64 4] 3 → Calls Try.prog 15 #[.slice (some ⟨b, 0, none⟩) 3 3] y fun e w' => e = .returned (.tuple #[.int .u16 17, .int .i64 0]) ∧ w' = y := fun y b hb => mask_any _ (some ⟨b, 0, none⟩) 3 [4, 0, 4] (fun j x hj => ⟨b, 0, rfl, by
    rw [cell_heap hb]
    rcases j with _ | _ | _ | j <;> simp at hj ⊢ <;> exact hj⟩) (by decide)
  have hS : ∀ v, Calls Try.prog 10 #[.agg (padC 3), .agg (pdC wakeP), .int .u8 165] v fun e w' => e = .returned (.agg (padC 5)) ∧ Below v.heap.size v w' := fun v => step_any v 3 wakeP 165 (by decide) (by decide) (by decide) (by decide)
  have hD : ∀ v, Calls Try.prog 7 #[.agg (padC 3), .int .u16 8] v fun e w' => e = .returned (.bool true) ∧ Below v.heap.size v w' := fun v => down_any v 3 8 (by decide)
  have b1 : Hid (Try.prog.built 23 [(0, .int .u8 3)] = some (padC 3)) := builtP 3
  have b2 : Hid (Try.prog.built 28 [(6, .int .u8 2), (2, .bool true)] = some (pdC wakeP)) := (by kernel_rfl : Try.prog.built 28 [(6, .int .u8 2), (2, .bool true)] = some (pdC wakeP))
  have ix : ∀ g cap v, (Instr.indexAt 31 (.slice (some ⟨g, 0, none⟩) 2 cap) (.int .i64 1)).run Try.prog v = .ok (.pointer (some ⟨g, 1, none⟩)) v := fun g cap v => idxP (g := g) (off := 0) (len := 2) (cap := cap) Try.underlying31 (s := 1) (by kernel_rfl) .i64 1 v (by decide)
  obtain ⟨A, hA⟩ : ∃ A, padC 3 = A := ⟨_, rfl⟩
  obtain ⟨B, hB⟩ : ∃ A, pdC wakeP = A := ⟨_, rfl⟩
  rw [hA] at hS hD b1
  rw [hB] at hS b2
  clear hA hB
  go_enter Try.func9, Try.ntmps9
  go_wp2_with (first
    | (go_at_call 13; refine (hK _).mono ?_; rintro e v1 ⟨g, cap, rfl, K1⟩)
    | (go_at_call 15; refine (hM y2 v1.heap.size (K2.out.fm.bx 0 _ _ _ rfl)).mono ?_; rintro e v2 ⟨rfl, hv2⟩; replace hv2 := hv2.symm; subst hv2)
    | ((with_reducible refine gen_world (v1.alloc (.cells #[.int .i64 4, .int .i64 0, .int .i64 4] 3)) (Aw w g [(v1.heap.size, #[.int .i64 4, .int .i64 0, .int .i64 4], 3)]) ?_ ?_); exact K1.out.new _ _; intro y2 K2)
    | ((with_reducible refine at_bu #[(0, .const (.int .u8 3))] [(0, .int .u8 3)] A ?_ ?_ ?_ b1.out ?_); kernel_rfl; rfl; kernel_rfl)
    | ((with_reducible refine at_bu #[(6, .const (.int .u8 2)), (2, .const (.bool true))] [(6, .int .u8 2), (2, .bool true)] B ?_ ?_ ?_ b2.out ?_); kernel_rfl; rfl; kernel_rfl)
    | (go_at_call 10; refine (hS _).mono ?_; rintro e v3 ⟨rfl, hb3⟩; have K3 : Hid (Aw w g [] v3) := ⟨(K2.out.below hb3).fm.pre (l := []), (K2.out.below hb3).c⟩)
    | ((with_reducible refine gen_world (v3.alloc (.cells (padC 0) 23)) (Aw w g [(v3.heap.size, padC 0, 23)]) ?_ ?_); exact K3.out.new _ _; intro y4 K4)
    | ((with_reducible refine at_st rtP v3.heap.size (padC 0) (padC 5) ?_ ?_ ?_ ?_ (.tmp 4) (.tmp 13) ?_ ?_ ?_ ?_ ?_); exact K4.out.fm.bx 0 _ _ _ rfl; rfl; rfl; exact padC_one _; rfl; rfl; rfl; rfl; intro y5 hw5; have K5 : Hid (Aw w g [(v3.heap.size, padC 5, 23)] y5) := K4.out.putP (i := 0) rfl (Nat.ne_of_lt (World.block_lt_of_cell? v3 ⟨g, 1, none⟩ K3.out.c)) hw5.out; refine stopAt ?_))
  refine Stop.go ?_
  go_wp2_with (first
    | ((with_reducible refine at_bu #[(0, .const (.int .u8 3))] [(0, .int .u8 3)] A ?_ ?_ ?_ b1.out ?_); kernel_rfl; rfl; kernel_rfl)
    | (go_at_call 7; refine (hD _).mono ?_; rintro e v6 ⟨rfl, hb6⟩; have K6 : Hid (Aw w g [(v3.heap.size, padC 5, 23)] v6) := K5.out.below hb6; have d1 := K6.out.c; have d5 := (K6.out.fm.bx 0 _ _ _ rfl).c 0 _ (padC_0 5); have ix1 := ix g cap))
  go_ret
  exact ⟨by first | rfl | simp, K6.out.fm.low⟩

theorem downs_walk (w : World) (p m : Nat) (hp : p < 256) (hm : m < 65536) : Calls Try.prog 3 #[.agg (padC (p : Int)), .int .u16 (m : Int)] w fun e w' => e = .returned (.bool true) ∧ Below w.heap.size w w' := by
  have h1 := fun v => down_any v p m hm
  have h2 := fun v => rdown_any v p m hp hm
  have hA := awake_any
  obtain ⟨l, hl⟩ : ∃ l : Int, (p : Int) = l := ⟨_, rfl⟩
  obtain ⟨c, hc⟩ : ∃ c : Int, (m : Int) = c := ⟨_, rfl⟩
  obtain ⟨b, hb⟩ : ∃ b, bitB m p = b := ⟨_, rfl⟩
  rw [hl, hc, hb] at h1 h2
  rw [hl, hc]
  have hF : Hid (Fm w [(w.heap.size, padC l, 23)] (w.alloc (.cells (padC l) 23))) := Fm.one w _ _
  clear hl hc hb hp hm
  go_enter Try.func3, Try.ntmps3
  go_wp2
  refine region_class_tail 6 (Fm w [(w.heap.size, padC l, 23)]) (by kernel_rfl) (by kernel_rfl) (hF.out.below (below_drew (Below.refl _ _))) ?_
  simp only [List.take_succ_cons, List.take_zero, List.drop_succ_cons, List.drop_zero]
  with_reducible refine quiet_one (.agg (padC l)) ?_ ?_ ?_
  · kernel_rfl
  · exact q_load (C := (Fm w [(w.heap.size, padC l, 23)])) rtP (w.heap.size) (padC l) (fun _ h => h.bx 0 _ _ _ rfl) rfl (.tmp 2) rfl (by go_simp)
  with_reducible refine quiet_one (.int .u16 c) ?_ ?_ ?_
  · kernel_rfl
  · intro u hy
    go_simp
  with_reducible refine quiet_one (.bool b) ?_ ?_ ?_
  · kernel_rfl
  · intro u hy
    have d := (h1 u).mono fun e w' (h : _ ∧ _) => And.intro h.1 (hy.below h.2)
    go_simp
    all_goals exact d
  with_reducible refine quiet_one (.agg (padC l)) ?_ ?_ ?_
  · kernel_rfl
  · intro u hy
    generalize ha : Act.put _ _ _ = a
    have e1 : a.eval (.tmp 2) = .pointer (some ⟨w.heap.size, 0, none⟩) := by rw [← ha]; go_simp
    clear ha
    exact q_load (C := (Fm w [(w.heap.size, padC l, 23)])) rtP (w.heap.size) (padC l) (fun _ h => h.bx 0 _ _ _ rfl) rfl (.tmp 2) rfl e1 u hy
  with_reducible refine quiet_one (.int .u16 c) ?_ ?_ ?_
  · kernel_rfl
  · intro u hy
    go_simp
  with_reducible refine quiet_one (.bool b) ?_ ?_ ?_
  · kernel_rfl
  · intro u hy
    have d := (h2 u).mono fun e w' (h : _ ∧ _) => And.intro h.1 (hy.below h.2)
    go_simp
    all_goals exact d
  refine wpQuiet_nil ?_
  intro z0 K0
  replace K0 : Hid _ := K0
  go_simp
  have qb : (b == b) = true := by simp
  go_wp2_with (go_at_call 9; refine (hA _).mono ?_; rintro e v1 ⟨rfl, hb1⟩; have K1 : Hid _ := K0.out.below hb1)
  go_ret
  exact ⟨by first | rfl | simp, K1.out.low⟩

theorem steps_walk (w : World) (p : Int) (d : Pd) (x : Int) (p0 : 0 ≤ p) (p1 : p ≤ 255) (x0 : 0 ≤ x) (x1 : x ≤ 255) : Calls Try.prog 4 #[.agg (padC p), .agg (pdC d), .int .u8 x] w fun e w' => e = .returned (.bool true) ∧ Below w.heap.size w w' := by
  have h1 := fun v => step_any v p d x p0 p1 x0 x1
  have h2 := fun v => rstep_any v p d x p0 p1 x0 x1
  have hA := awake_any
  obtain ⟨q, hq⟩ : ∃ q, stepL p d.Port d.Rd x = q := ⟨_, rfl⟩
  rw [hq] at h1 h2
  have hE := eqPd q q
  rw [show (q == q) = true by simp] at hE
  replace hE : Hid _ := hE
  have hF : Hid (Fm w [(w.heap.size, padC p, 23), (w.heap.size + 1, pdC d, 28)] ((w.alloc (.cells (padC p) 23)).alloc (.cells (pdC d) 28))) := Fm.two w _ _ _ _
  clear hq p0 p1 x0 x1
  go_enter Try.func4, Try.ntmps4
  go_wp2
  refine region_class_tail 8 (Fm w [(w.heap.size, padC p, 23), (w.heap.size + 1, pdC d, 28)]) (by kernel_rfl) (by kernel_rfl) (hF.out.below (below_drew (Below.refl _ _))) ?_
  simp only [List.take_succ_cons, List.take_zero, List.drop_succ_cons, List.drop_zero]
  with_reducible refine quiet_one (.agg (padC p)) ?_ ?_ ?_
  · kernel_rfl
  · exact q_load (C := (Fm w [(w.heap.size, padC p, 23), (w.heap.size + 1, pdC d, 28)])) rtP (w.heap.size) (padC p) (fun _ h => h.bx 0 _ _ _ rfl) rfl (.tmp 3) rfl (by go_simp)
  with_reducible refine quiet_one (.agg (pdC d)) ?_ ?_ ?_
  · kernel_rfl
  · intro u hy
    generalize ha : Act.put _ _ _ = a
    have e1 : a.eval (.tmp 4) = .pointer (some ⟨w.heap.size + 1, 0, none⟩) := by rw [← ha]; go_simp
    clear ha
    exact q_load (C := (Fm w [(w.heap.size, padC p, 23), (w.heap.size + 1, pdC d, 28)])) rtPd (w.heap.size + 1) (pdC d) (fun _ h => h.bx 1 _ _ _ rfl) rfl (.tmp 4) rfl e1 u hy
  with_reducible refine quiet_one (.int .u8 x) ?_ ?_ ?_
  · kernel_rfl
  · intro u hy
    go_simp
  with_reducible refine quiet_one (.agg (padC q)) ?_ ?_ ?_
  · kernel_rfl
  · intro u hy
    have d := (h1 u).mono fun e w' (h : _ ∧ _) => And.intro h.1 (hy.below h.2)
    go_simp
    all_goals exact d
  with_reducible refine quiet_one (.agg (padC p)) ?_ ?_ ?_
  · kernel_rfl
  · intro u hy
    generalize ha : Act.put _ _ _ = a
    have e1 : a.eval (.tmp 3) = .pointer (some ⟨w.heap.size, 0, none⟩) := by rw [← ha]; go_simp
    clear ha
    exact q_load (C := (Fm w [(w.heap.size, padC p, 23), (w.heap.size + 1, pdC d, 28)])) rtP (w.heap.size) (padC p) (fun _ h => h.bx 0 _ _ _ rfl) rfl (.tmp 3) rfl e1 u hy
  with_reducible refine quiet_one (.agg (pdC d)) ?_ ?_ ?_
  · kernel_rfl
  · intro u hy
    generalize ha : Act.put _ _ _ = a
    have e1 : a.eval (.tmp 4) = .pointer (some ⟨w.heap.size + 1, 0, none⟩) := by rw [← ha]; go_simp
    clear ha
    exact q_load (C := (Fm w [(w.heap.size, padC p, 23), (w.heap.size + 1, pdC d, 28)])) rtPd (w.heap.size + 1) (pdC d) (fun _ h => h.bx 1 _ _ _ rfl) rfl (.tmp 4) rfl e1 u hy
  with_reducible refine quiet_one (.int .u8 x) ?_ ?_ ?_
  · kernel_rfl
  · intro u hy
    go_simp
  with_reducible refine quiet_one (.agg (padC q)) ?_ ?_ ?_
  · kernel_rfl
  · intro u hy
    have d := (h2 u).mono fun e w' (h : _ ∧ _) => And.intro h.1 (hy.below h.2)
    go_simp
    all_goals exact d
  refine wpQuiet_nil ?_
  intro z0 K0
  replace K0 : Hid _ := K0
  go_simp
  go_wp2_with (first
    | ((with_reducible refine at_eq hE.out (.tmp 10) (.tmp 14) 23 ?_ ?_ ?_ ?_ ?_); kernel_rfl; rfl; rfl; rfl)
    | (go_at_call 9; refine (hA _).mono ?_; rintro e v1 ⟨rfl, hb1⟩; have K1 : Hid _ := K0.out.below hb1))
  go_ret
  exact ⟨by first | rfl | simp, K1.out.low⟩
end Go.Proofs.Ytabhhmkbcnabmaa
