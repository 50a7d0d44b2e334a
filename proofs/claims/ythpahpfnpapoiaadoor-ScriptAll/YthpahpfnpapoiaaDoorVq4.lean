/- A text read as a script: the program's. -/
import Derived.Test.YthpahpfnpapoiaaDoorVq3
import Derived.Test.YthpahpfnpapoiaaDoorVs
namespace Go.Proofs.YthpahpfnpapoiaaDoor
open Go Go.RowKit Go.Shelf
set_option linter.unusedVariables false
set_option maxHeartbeats 4000000
set_option maxRecDepth 100000
attribute [local go_sem] Oper.semAt_some

/-- Between two rounds: the spans read so far, how many cycles they have. -/
def PI (w : World) (b5 b6 : Nat) {t : List UInt8} (pre : List (Ln t)) (W : World) : Prop := ∃ v out, GoodP pre out ∧ Ct w v (.slice none 0 0) out [] [(w.heap.size, #[.slice none 0 0], 23), (w.heap.size + 1, #[.int .i64 (0)], 25), (w.heap.size + 2, #[.int .i64 (0)], 3), (b5, #[v], 23), (b6, #[.int .i64 (sumC out)], 3)] W
/-- A line was none, or too many cycles. -/
def PX (w : World) {t : List UInt8} (c : Code) (pre : List (Ln t)) (W : World) : Prop := c = .ret ∧ ∃ E A, BadP pre E A ∧ Fm w [(w.heap.size, #[.slice none 0 0], 23), (w.heap.size + 1, #[.int .i64 (E)], 25), (w.heap.size + 2, #[.int .i64 (A)], 3)] W
theorem PI.own {w : World} {b5 b6 B : Nat} {t : List UInt8} (hB : w.heap.size ≤ B) : OwnFrom B (PI w b5 b6 (t := t)) := fun s W W' row ⟨v, out, hG, h⟩ hg hr => ⟨v, out, hG, h.own hg (fun r e => ⟨Nat.le_trans hB (hr r e).1, (hr r e).2⟩)⟩
theorem PX.own {w : World} {B : Nat} {t : List UInt8} (hB : w.heap.size ≤ B) (c : Code) : OwnFrom B (PX w (t := t) c) := fun s W W' row ⟨hc, E, A, hb, h⟩ hg hr => ⟨hc, E, A, hb, h.own hg (fun r e => ⟨Nat.le_trans hB (hr r e).1, (hr r e).2⟩)⟩

theorem parse_any (w : World) (tb : Hid (Tp w)) (text : ByteArray) (hs : text.size ≤ 9223372036854775807) :
    Calls Tryd.prog 28 #[.string text] w fun e w' => ∃ v, e = .returned (.tuple #[v, .int .i64 (parseS (strL text)).2.1, .int .i64 (parseS (strL text)).2.2]) ∧ Hid (Ct w v (.slice none 0 0) (parseS (strL text)).1 [] [] w') := by
  have hlong := fun y => long_any y text hs
  obtain ⟨lg, hlg⟩ : ∃ b, (decide (65536 < text.size) || decide (4096 < (allL (strL text)).length)) = b := ⟨_, rfl⟩
  rw [hlg] at hlong
  obtain ⟨PS, hPS⟩ : ∃ x, parseS (strL text) = x := ⟨_, rfl⟩
  rw [hPS]
  have hF : Hid (Fm w [(w.heap.size, #[.slice none 0 0], 23), (w.heap.size + 1, #[.int .i64 (0)], 25), (w.heap.size + 2, #[.int .i64 (0)], 3)] (((w.alloc (.cells #[.slice none 0 0] 23)).alloc (.cells #[.int .i64 0] 25)).alloc (.cells #[.int .i64 0] 3))) := Fm.three w _ _ _ _ _ _
  have agL : ∀ w, (isAgg 23).run Tryd.prog w = .ok false w := Tryd.isAgg23
  have agE : ∀ w, (isAgg 25).run Tryd.prog w = .ok false w := Tryd.isAgg25
  have agI : ∀ w, (isAgg 3).run Tryd.prog w = .ok false w := Tryd.isAgg3
  cases lg with
  | true =>
    have e : PS = ([], 2, 0) := by
      rw [← hPS]
      unfold parseS
      simp only [Bool.or_eq_true, decide_eq_true_eq] at hlg
      rw [strL_len]
      by_cases h1 : 65536 < text.size
      · rw [if_pos h1]
      · rw [if_neg h1, if_pos (by rw [← allL_len]; rcases hlg with h | h; exact absurd h h1; exact h)]
    subst e
    clear hPS hlg
    refine (callsIn_wide (n := 9)).1 ?_
    refine callsIn_of_wp_marks Tryd.func28 rfl trivial ?_ rfl
    simp only [Tryd.ntmps28, List.size_toArray, List.length_cons, List.length_nil, Nat.reduceAdd, Nat.reduceSub, Array.replicate_succ, Array.replicate_zero, List.push_toArray, List.append_toArray, List.nil_append, List.cons_append]
    refine wpIn_wide.2 ?_
    go_wp2_with (first
      | ((with_reducible refine gen_world (((w.alloc (.cells #[.slice none 0 0] 23)).alloc (.cells #[.int .i64 0] 25)).alloc (.cells #[.int .i64 0] 3)) (Fm w [(w.heap.size, #[.slice none 0 0], 23), (w.heap.size + 1, #[.int .i64 (0)], 25), (w.heap.size + 2, #[.int .i64 (0)], 3)]) hF.out ?_); intro y0 K0)
      | (go_at_call 42; refine (hlong y0).mono ?_; rintro e y1 ⟨rfl, hb1⟩; have K1 : Hid (Fm w [(w.heap.size, #[.slice none 0 0], 23), (w.heap.size + 1, #[.int .i64 (0)], 25), (w.heap.size + 2, #[.int .i64 (0)], 3)] y1) := K0.out.below hb1; have d0 := (K1.out.bx 0 _ _ _ rfl).c 0 (.slice none 0 0) rfl; have z0 := (K1.out.bx 0 _ _ _ rfl).fz 0)
      | ((with_reducible refine gen_world (y1.setCell ⟨w.heap.size, 0, none⟩ (.slice none 0 0)) (Fm w [(w.heap.size, #[.slice none 0 0], 23), (w.heap.size + 1, #[.int .i64 (0)], 25), (w.heap.size + 2, #[.int .i64 (0)], 3)]) ?_ ?_); exact K1.out.setCell 0 _ _ _ _ rfl 0 _ rfl; intro y2 K2; have d1 := (K2.out.bx 1 _ _ _ rfl).c 0 (.int .i64 0) rfl; have z1 := (K2.out.bx 1 _ _ _ rfl).fz 0)
      | ((with_reducible refine gen_world (y2.setCell ⟨w.heap.size + 1, 0, none⟩ (.int .i64 2)) (Fm w [(w.heap.size, #[.slice none 0 0], 23), (w.heap.size + 1, #[.int .i64 (2)], 25), (w.heap.size + 2, #[.int .i64 (0)], 3)]) ?_ ?_); exact K2.out.setCell 1 _ _ _ _ rfl 0 _ rfl; intro y3 K3; have d2 := (K3.out.bx 2 _ _ _ rfl).c 0 (.int .i64 0) rfl; have z2 := (K3.out.bx 2 _ _ _ rfl).fz 0))
    have K4 := K3.out.setCell 2 _ _ _ _ rfl 0 (.int .i64 0) rfl
    exact leave_plain (res_three rfl agL agE agI rfl rfl rfl ((K4.bx 0 _ _ _ rfl).c 0 (.slice none 0 0) rfl) ((K4.bx 1 _ _ _ rfl).c 0 (.int .i64 2) rfl) ((K4.bx 2 _ _ _ rfl).c 0 (.int .i64 0) rfl)) ⟨_, rfl, Ct.none K4.low⟩
  | false =>
    have hlg' : ¬ 65536 < text.size ∧ ¬ 4096 < (allL (strL text)).length := by simpa using hlg
    have hsz : Hid (text.size ≤ 65536) := by show text.size ≤ 65536; have := hlg'.1; omega
    have h1 : Hid (¬ 65536 < (strL text).length) := by rw [strL_len]; exact hlg'.1
    have h2 : Hid (¬ 4096 < (allL (strL text)).length) := hlg'.2
    have hPS : Hid (parseS (strL text) = PS) := hPS
    have zz := zeroVS
    obtain ⟨Z, hZ⟩ : ∃ Z, (⟨0, ⟨0, false, false, false, false, false, false, false, 0⟩⟩ : Sn) = Z := ⟨_, rfl⟩
    rw [hZ] at zz
    clear hlg hlg' hZ
    refine (callsIn_wide (n := 9)).1 ?_
    refine callsIn_of_wp_marks Tryd.func28 rfl trivial ?_ rfl
    simp only [Tryd.ntmps28, List.size_toArray, List.length_cons, List.length_nil, Nat.reduceAdd, Nat.reduceSub, Array.replicate_succ, Array.replicate_zero, List.push_toArray, List.append_toArray, List.nil_append, List.cons_append]
    refine wpIn_wide.2 ?_
    go_wp2_with (first
      | ((with_reducible refine gen_world (((w.alloc (.cells #[.slice none 0 0] 23)).alloc (.cells #[.int .i64 0] 25)).alloc (.cells #[.int .i64 0] 3)) (Fm w [(w.heap.size, #[.slice none 0 0], 23), (w.heap.size + 1, #[.int .i64 (0)], 25), (w.heap.size + 2, #[.int .i64 (0)], 3)]) hF.out ?_); intro y0 K0)
      | (go_at_call 42; refine (hlong y0).mono ?_; rintro e y1 ⟨rfl, hb1⟩; have K1 : Hid (Fm w [(w.heap.size, #[.slice none 0 0], 23), (w.heap.size + 1, #[.int .i64 (0)], 25), (w.heap.size + 2, #[.int .i64 (0)], 3)] y1) := K0.out.below hb1)
      | ((with_reducible refine gen_world (y1.alloc (.cells #[.slice none 0 0] 23)) (Fm w [(w.heap.size, #[.slice none 0 0], 23), (w.heap.size + 1, #[.int .i64 (0)], 25), (w.heap.size + 2, #[.int .i64 (0)], 3), (y1.heap.size, #[.slice none 0 0], 23)]) ?_ ?_); exact K1.out.new _ _; intro y2 K2)
      | ((with_reducible refine gen_world (y2.alloc (.cells #[.int .i64 0] 3)) (Fm w [(w.heap.size, #[.slice none 0 0], 23), (w.heap.size + 1, #[.int .i64 (0)], 25), (w.heap.size + 2, #[.int .i64 (0)], 3), (y1.heap.size, #[.slice none 0 0], 23), (y2.heap.size, #[.int .i64 0], 3)]) ?_ ?_); exact K2.out.new _ _; intro y3a K3a; have d6 := (K3a.out.bx 4 _ _ _ rfl).c 0 (.int .i64 0) rfl; have z6 := (K3a.out.bx 4 _ _ _ rfl).fz 0)
      | ((with_reducible refine gen_world (y3a.setCell ⟨y2.heap.size, 0, none⟩ (.int .i64 0)) (Fm w [(w.heap.size, #[.slice none 0 0], 23), (w.heap.size + 1, #[.int .i64 (0)], 25), (w.heap.size + 2, #[.int .i64 (0)], 3), (y1.heap.size, #[.slice none 0 0], 23), (y2.heap.size, #[.int .i64 0], 3)]) ?_ ?_); exact K3a.out.setCell 4 _ _ _ _ rfl 0 _ rfl; intro y3 K3)
      | (go_at_call 43; refine (lines_any y3 text).mono ?_; rintro e y4 ⟨rfl, h4⟩; have K4 : Hid (Fm w [(w.heap.size, #[.slice none 0 0], 23), (w.heap.size + 1, #[.int .i64 (0)], 25), (w.heap.size + 2, #[.int .i64 (0)], 3), (y1.heap.size, #[.slice none 0 0], 23), (y2.heap.size, #[.int .i64 0], 3), (y3.heap.size, #[.string text], 9)] y4) := (by rw [h4]; exact K3.out.new _ _); clear h4))
    obtain ⟨b5, hb5⟩ : ∃ b, y1.heap.size = b := ⟨_, rfl⟩
    obtain ⟨b6, hb6⟩ : ∃ b, y2.heap.size = b := ⟨_, rfl⟩
    obtain ⟨bt, hbt⟩ : ∃ b, y3.heap.size = b := ⟨_, rfl⟩
    rw [hb5, hb6, hbt] at K4
    rw [hb5, hb6, hbt]
    have hc := (K4.out.bx 5 _ _ _ rfl).c 0 (.string text) rfl
    have hlt := heap_lt (K4.out.get 5 _ _ _ rfl)
    have hle : w.heap.size ≤ y4.heap.size := K4.out.low.size
    have hst : PI w b5 b6 (t := strL text) [] y4 := ⟨.slice none 0 0, [], GoodP.nil _, ⟨K4.out.pre (l := [_, _, _, _, _]), OwnS.nil _ _, OwnS.nil _ _, (fun g h => by simp [Value.ownBlock] at h), (fun i b cs t e => ⟨by simp [Value.ownBlock], by simp [Value.ownBlock]⟩)⟩⟩
    clear K0 K1 K2 K3 K3a d6 z6 hb5 hb6 hbt hlong hF
    refine (wpIn_wide (n := 9)).1 ?_
    refine wpIn_rangeFunc_ownG (F := Fence.wide) (n := 9) rfl (by decide) (gf := 50) (lb := #[.pointer (some ⟨bt, 0, none⟩)]) rfl trivial (enters_of Tryd.func50 (by kernel_rfl) rfl) (lines_stops 8 (by decide) bt text hsz.out y4 hlt hc) (fun _ _ => trivial) (fun _ _ _ _ _ _ _ _ => trivial) (Below.refl _ _) (fun _ => rfl)
      (PI w b5 b6) (fun c pre W => PX w c pre W) (PI.own hle) (fun c => PX.own hle c) hst ?a1 ?assign ?body ?done ?stop
    case assign =>
      intro l x W K hK
      dsimp only [encLn]
      gi_wp2
      exact hK
    case body =>
      rintro l pre x W ⟨v, out, hG, hC⟩ hN
      have hol : Hid (out.length ≤ 4096) := by have h3 := hG.len; have := h2.out; show out.length ≤ 4096; omega
      have hxs : x.1.2.size ≤ 65536 := by
        have h3 := allL_size (strL text) _ (List.mem_of_getElem? x.2)
        rw [strL_len, strL_len] at h3
        have := hsz.out
        omega
      have hread := read_any W (tb.out.below hC.fm.low) x.1.2 hxs
      obtain ⟨R, hR⟩ : ∃ R, lineO (strL x.1.2) = R := ⟨_, rfl⟩
      rw [hR] at hread
      have hR : Hid (lineO (strL x.1.2) = R) := hR
      have hG : Hid (GoodP pre out) := hG
      obtain ⟨sp, cap, rfl, _, _⟩ := OwnS.open hC.oa
      obtain ⟨ln, hln⟩ : ∃ n, out.length = n := ⟨_, rfl⟩
      rw [hln] at hC
      have hln : Hid (out.length = ln) := hln
      obtain ⟨cc, hcc⟩ : ∃ c, sumC out = c := ⟨_, rfl⟩
      have cc1 : cc ≤ 4194304 := by rw [← hcc]; exact hG.out.2
      have cc0 : 0 ≤ cc := by rw [← hcc]; exact sum_pos _ _ hG.out.1
      rw [hcc] at hC
      have hcc : Hid (sumC out = cc) := hcc
      have KW : Hid (Ck w W (.slice sp ln cap) (.slice none 0 0) out [] [(w.heap.size, #[.slice none 0 0], 23), (w.heap.size + 1, #[.int .i64 (0)], 25), (w.heap.size + 2, #[.int .i64 (0)], 3), (b5, #[.slice sp ln cap], 23), (b6, #[.int .i64 (cc)], 3)] W) := ⟨hC, KeepsOthers.refl W⟩
      clear hC hst hN hxs
      refine wpIn_block ?_
      refine wpIn_seq ?_
      refine reg_round (noOut_then (noOut_block noOut_own)) rfl ?_
      go_wp2_with (first
        | (go_at_call 44; refine hread.mono ?_; rintro e y1 ⟨s', rfl, H1⟩; have K1 : Hid (Ck w W (.slice sp ln cap) (.slice none 0 0) out [] [(w.heap.size, #[.slice none 0 0], 23), (w.heap.size + 1, #[.int .i64 (0)], 25), (w.heap.size + 2, #[.int .i64 (0)], 3), (b5, #[.slice sp ln cap], 23), (b6, #[.int .i64 (cc)], 3)] y1) := KW.out.below H1.out.2)
        | ((with_reducible refine gen_world (y1.alloc (.cells (spC Z) 34)) (Ck w W (.slice sp ln cap) (.slice none 0 0) out [] [(w.heap.size, #[.slice none 0 0], 23), (w.heap.size + 1, #[.int .i64 (0)], 25), (w.heap.size + 2, #[.int .i64 (0)], 3), (b5, #[.slice sp ln cap], 23), (b6, #[.int .i64 (cc)], 3), (y1.heap.size, spC Z, 34)]) ?_ ?_); exact K1.out.new _ _; intro y2 K2)
        | ((with_reducible refine at_st rtS y1.heap.size (spC Z) (spC s') ?_ ?_ ?_ ?_ (.tmp 9) (.tmp 20) ?_ ?_ ?_ ?_ ?_); exact K2.out.c.fm.bx 5 _ _ _ rfl; rfl; rfl; exact spC_one _; rfl; rfl; rfl; rfl; intro y3 hw3; have K3 : Hid (Ck w W (.slice sp ln cap) (.slice none 0 0) out [] [(w.heap.size, #[.slice none 0 0], 23), (w.heap.size + 1, #[.int .i64 (0)], 25), (w.heap.size + 2, #[.int .i64 (0)], 3), (b5, #[.slice sp ln cap], 23), (b6, #[.int .i64 (cc)], 3), (y1.heap.size, spC s', 34)] y3) := K2.out.put 5 _ _ _ _ rfl hw3.out))
      obtain ⟨b9, hb9⟩ : ∃ b, y1.heap.size = b := ⟨_, rfl⟩
      rw [hb9] at K3
      rw [hb9]
      have H1 : Hid (∀ t, R = some t → s' = t) := H1.out.1
      clear K1 K2 hb9 hw3 hread KW
      cases R with
      | none =>
        have d0 := (K3.out.c.fm.bx 0 _ _ _ rfl).c 0 (.slice none 0 0) rfl; have z0 := (K3.out.c.fm.bx 0 _ _ _ rfl).fz 0
        refine wpIn_seq ?_
        refine wpIn_seq ?_
        refine reg_round (noOut_then (noOut_then (noOut_block noOut_own))) rfl ?_
        go_wp2
        refine wpIn_cond_true rfl ?_
        refine wpIn_seq ?_
        refine reg_round (noOut_then (noOut_then (noOut_block noOut_own))) rfl ?_
        go_wp2_with (first
          | ((with_reducible refine gen_world (y3.setCell ⟨w.heap.size, 0, none⟩ (.slice none 0 0)) (Ck w W (.slice sp ln cap) (.slice none 0 0) out [] [(w.heap.size, #[.slice none 0 0], 23), (w.heap.size + 1, #[.int .i64 (0)], 25), (w.heap.size + 2, #[.int .i64 (0)], 3), (b5, #[.slice sp ln cap], 23), (b6, #[.int .i64 (cc)], 3), (b9, spC s', 34)]) ?_ ?_); exact K3.out.setCell 0 _ _ _ _ rfl 0 _ rfl; intro y4 K4; have d1 := (K4.out.c.fm.bx 1 _ _ _ rfl).c 0 (.int .i64 0) rfl; have z1 := (K4.out.c.fm.bx 1 _ _ _ rfl).fz 0)
          | ((with_reducible refine gen_world (y4.setCell ⟨w.heap.size + 1, 0, none⟩ (.int .i64 71)) (Ck w W (.slice sp ln cap) (.slice none 0 0) out [] [(w.heap.size, #[.slice none 0 0], 23), (w.heap.size + 1, #[.int .i64 (71)], 25), (w.heap.size + 2, #[.int .i64 (0)], 3), (b5, #[.slice sp ln cap], 23), (b6, #[.int .i64 (cc)], 3), (b9, spC s', 34)]) ?_ ?_); exact K4.out.setCell 1 _ _ _ _ rfl 0 _ rfl; intro y5 K5; have d2 := (K5.out.c.fm.bx 2 _ _ _ rfl).c 0 (.int .i64 0) rfl; have z2 := (K5.out.c.fm.bx 2 _ _ _ rfl).fz 0))
        have K6 := K5.out.setCell 2 _ _ _ _ rfl 0 (.int .i64 ((x.1.1 : Int) + 1)) rfl
        refine wpIn_ret ?_
        exact ⟨K6.k.from _, rfl, 71, (x.1.1 : Int) + 1, ⟨pre, x, out, rfl, hG.out, rfl, .inl ⟨rfl, hR.out⟩⟩, K6.c.fm.pre (l := [_, _, _])⟩
      | some s =>
        obtain rfl := H1.out s rfl
        have gs := lineO_good hR.out
        have g0 := gs.c0
        have g1 := gs.c1
        obtain ⟨c, sa⟩ := s'
        dsimp only at g0 g1
        have d6 := (K3.out.c.fm.bx 4 _ _ _ rfl).c 0 (.int .i64 cc) rfl; have z6 := (K3.out.c.fm.bx 4 _ _ _ rfl).fz 0
        have d9 := (K3.out.c.fm.bx 5 _ _ _ rfl).c 0 _ (spC_c ⟨c, sa⟩)
        dsimp only at d9
        clear gs
        refine wpIn_seq ?_
        refine wpIn_seq ?_
        refine reg_round (noOut_then (noOut_then (noOut_block noOut_own))) rfl ?_
        go_wp2
        refine wpIn_cond_false rfl ?_
        refine wpIn_skip ?_
        dsimp only [Exit.then]
        refine wpIn_seq ?_
        refine reg_round (noOut_then (noOut_block noOut_own)) rfl ?_
        go_wp2
        have K4 : Hid (Ck w W (.slice sp ln cap) (.slice none 0 0) out [] [(w.heap.size, #[.slice none 0 0], 23), (w.heap.size + 1, #[.int .i64 (0)], 25), (w.heap.size + 2, #[.int .i64 (0)], 3), (b5, #[.slice sp ln cap], 23), (b6, #[.int .i64 (cc + c)], 3), (b9, spC ⟨c, sa⟩, 34)] (y3.setCell ⟨b6, 0, none⟩ (.int .i64 (cc + c)))) := K3.out.setCell 4 _ _ _ _ rfl 0 _ rfl
        clear d6 z6 d9 K3
        generalize y3.setCell ⟨b6, 0, none⟩ (.int .i64 (cc + c)) = y4 at K4 ⊢
        have d6 := (K4.out.c.fm.bx 4 _ _ _ rfl).c 0 (.int .i64 (cc + c)) rfl; have z6 := (K4.out.c.fm.bx 4 _ _ _ rfl).fz 0
        refine wpIn_seq ?_
        refine wpIn_seq ?_
        refine reg_round (noOut_then (noOut_then (noOut_block noOut_own))) rfl ?_
        by_cases h4 : 4194304 < cc + c
        · have q4 : decide (4194304 < cc + c) = true := by simpa using h4
          have d0 := (K4.out.c.fm.bx 0 _ _ _ rfl).c 0 (.slice none 0 0) rfl; have z0 := (K4.out.c.fm.bx 0 _ _ _ rfl).fz 0
          go_wp2
          refine wpIn_cond_true (by first | rfl | simp [q4, h4]) ?_
          refine wpIn_seq ?_
          refine reg_round (noOut_then (noOut_then (noOut_block noOut_own))) rfl ?_
          go_wp2_with (first
            | ((with_reducible refine gen_world (y4.setCell ⟨w.heap.size, 0, none⟩ (.slice none 0 0)) (Ck w W (.slice sp ln cap) (.slice none 0 0) out [] [(w.heap.size, #[.slice none 0 0], 23), (w.heap.size + 1, #[.int .i64 (0)], 25), (w.heap.size + 2, #[.int .i64 (0)], 3), (b5, #[.slice sp ln cap], 23), (b6, #[.int .i64 (cc + c)], 3), (b9, spC ⟨c, sa⟩, 34)]) ?_ ?_); exact K4.out.setCell 0 _ _ _ _ rfl 0 _ rfl; intro y5 K5; have d1 := (K5.out.c.fm.bx 1 _ _ _ rfl).c 0 (.int .i64 0) rfl; have z1 := (K5.out.c.fm.bx 1 _ _ _ rfl).fz 0)
            | ((with_reducible refine gen_world (y5.setCell ⟨w.heap.size + 1, 0, none⟩ (.int .i64 70)) (Ck w W (.slice sp ln cap) (.slice none 0 0) out [] [(w.heap.size, #[.slice none 0 0], 23), (w.heap.size + 1, #[.int .i64 (70)], 25), (w.heap.size + 2, #[.int .i64 (0)], 3), (b5, #[.slice sp ln cap], 23), (b6, #[.int .i64 (cc + c)], 3), (b9, spC ⟨c, sa⟩, 34)]) ?_ ?_); exact K5.out.setCell 1 _ _ _ _ rfl 0 _ rfl; intro y6 K6; have d2 := (K6.out.c.fm.bx 2 _ _ _ rfl).c 0 (.int .i64 0) rfl; have z2 := (K6.out.c.fm.bx 2 _ _ _ rfl).fz 0))
          have K7 := K6.out.setCell 2 _ _ _ _ rfl 0 (.int .i64 ((x.1.1 : Int) + 1)) rfl
          refine wpIn_ret ?_
          exact ⟨K7.k.from _, rfl, 70, (x.1.1 : Int) + 1, ⟨pre, x, out, rfl, hG.out, rfl, .inr ⟨rfl, ⟨c, sa⟩, hR.out, by rw [hcc.out]; exact h4⟩⟩, K7.c.fm.pre (l := [_, _, _])⟩
        · have q4 : decide (4194304 < cc + c) = false := by simpa using h4
          have d5 := (K4.out.c.fm.bx 3 _ _ _ rfl).c 0 (.slice sp ln cap) rfl; have z5 := (K4.out.c.fm.bx 3 _ _ _ rfl).fz 0
          go_wp2
          refine wpIn_cond_false (by first | rfl | simp [q4, h4]) ?_
          refine wpIn_skip ?_
          dsimp only [Exit.then]
          refine reg_round (noOut_block noOut_own) rfl ?_
          go_wp2_with (first
            | ((with_reducible refine at_load rtS b9 (spC ⟨c, sa⟩) ?_ ?_ (.tmp 9) ?_ ?_ ?_ ?_); exact K4.out.c.fm.bx 5 _ _ _ rfl; rfl; kernel_rfl; rfl; rfl)
            | ((with_reducible refine at_bsS ⟨c, sa⟩ (.tmp 33) ?_ ?_ ?_ ?_); rfl; rfl; rfl)
            | (at_builtin; refine at_app rfl (.tmp 32) (.tmp 34) rfl w.heap.size (.slice sp ln cap) out rfl (K4.out.c.oa.alloc _) y4.heap.size ⟨c, sa⟩ rfl (one_bx _ _ _) ?_ ?_ ?_; (have := hol.out; omega); (have := K4.out.c.fm.low.size; simp; omega); intro va' x7 H7; have K7 : Hid (Ck w W va' (.slice none 0 0) (out ++ [⟨c, sa⟩]) [] [(w.heap.size, #[.slice none 0 0], 23), (w.heap.size + 1, #[.int .i64 (0)], 25), (w.heap.size + 2, #[.int .i64 (0)], 3), (b5, #[.slice sp ln cap], 23), (b6, #[.int .i64 (cc + c)], 3), (b9, spC ⟨c, sa⟩, 34)] x7) := K4.out.appA H7.out; obtain ⟨sp7, cap7, e7, _, _⟩ := OwnS.open H7.out.own; rw [show (out ++ [(⟨c, sa⟩ : Sn)]).length = ln + 1 by rw [List.length_append, hln.out]; rfl] at e7; subst e7; clear H7; have d7 := (K7.out.c.fm.bx 3 _ _ _ rfl).c 0 (.slice sp ln cap) rfl; have z7 := (K7.out.c.fm.bx 3 _ _ _ rfl).fz 0))
          have K8 := K7.out.setCell 3 _ _ _ _ rfl 0 (.slice sp7 (ln + 1) cap7) rfl
          refine ⟨K8.k.from _, trivial, .slice sp7 (ln + 1) cap7, out ++ [⟨c, sa⟩], hG.out.snoc x ⟨c, sa⟩ hR.out (by rw [hcc.out]; omega), ?_⟩
          have e8 : sumC (out ++ [⟨c, sa⟩]) = cc + c := by rw [sumC_app, hcc.out]; simp [sumC]
          rw [e8]
          exact K8.c.pre (bs := [_, _, _, _, _])
    case done =>
      rintro D xs W hD hS ⟨v, out, hG, hC⟩ hK
      have e : PS = (out, 0, 0) := by rw [← hPS.out]; exact good_end h1.out h2.out hS hG
      subst e
      obtain ⟨sp, cap, rfl, _, _⟩ := OwnS.open hC.oa
      have KW : Hid (Ct w (.slice sp out.length cap) (.slice none 0 0) out [] [(w.heap.size, #[.slice none 0 0], 23), (w.heap.size + 1, #[.int .i64 (0)], 25), (w.heap.size + 2, #[.int .i64 (0)], 3), (b5, #[.slice sp out.length cap], 23), (b6, #[.int .i64 (sumC out)], 3)] W ∧ W.heap[D]? = some (.deferred (some []))) := ⟨hC, hK⟩
      have d5 := (hC.fm.bx 3 _ _ _ rfl).c 0 (.slice sp out.length cap) rfl
      have d0 := (hC.fm.bx 0 _ _ _ rfl).c 0 (.slice none 0 0) rfl
      have z0 := (hC.fm.bx 0 _ _ _ rfl).fz 0
      clear hst hPS hG hS hK hC
      go_wp2_with (first
        | ((with_reducible refine gen_world (W.setCell ⟨w.heap.size, 0, none⟩ (.slice sp out.length cap)) (fun y => Ct w (.slice sp out.length cap) (.slice none 0 0) out [] [(w.heap.size, #[.slice sp out.length cap], 23), (w.heap.size + 1, #[.int .i64 0], 25), (w.heap.size + 2, #[.int .i64 0], 3), (b5, #[.slice sp out.length cap], 23), (b6, #[.int .i64 (sumC out)], 3)] y ∧ y.heap[D]? = some (.deferred (some []))) ?_ ?_); exact ⟨KW.out.1.setCell 0 _ _ _ _ rfl 0 _ rfl, mark_set KW.out.1.fm 0 _ _ _ rfl KW.out.2 0 _⟩; intro y5 K5; have d1 := (K5.out.1.fm.bx 1 _ _ _ rfl).c 0 (.int .i64 0) rfl; have z1 := (K5.out.1.fm.bx 1 _ _ _ rfl).fz 0)
        | ((with_reducible refine gen_world (y5.setCell ⟨w.heap.size + 1, 0, none⟩ (.int .i64 0)) (fun y => Ct w (.slice sp out.length cap) (.slice none 0 0) out [] [(w.heap.size, #[.slice sp out.length cap], 23), (w.heap.size + 1, #[.int .i64 0], 25), (w.heap.size + 2, #[.int .i64 0], 3), (b5, #[.slice sp out.length cap], 23), (b6, #[.int .i64 (sumC out)], 3)] y ∧ y.heap[D]? = some (.deferred (some []))) ?_ ?_); exact ⟨K5.out.1.setCell 1 _ _ _ _ rfl 0 _ rfl, mark_set K5.out.1.fm 1 _ _ _ rfl K5.out.2 0 _⟩; intro y6 K6; have d2 := (K6.out.1.fm.bx 2 _ _ _ rfl).c 0 (.int .i64 0) rfl; have z2 := (K6.out.1.fm.bx 2 _ _ _ rfl).fz 0))
      have K7 := K6.out.1.setCell 2 _ _ _ _ rfl 0 (.int .i64 0) rfl
      have hK7 := mark_set K6.out.1.fm 2 _ _ _ rfl K6.out.2 0 (.int .i64 0)
      have K8 := K7.own (grownBy_putObj' _ D (.deferred none)) (fun r e => by cases e; exact ⟨Nat.le_trans hle hD, _, hK7, rfl⟩)
      exact leave_mark hK7 (res_three rfl agL agE agI rfl rfl rfl ((K8.fm.bx 0 _ _ _ rfl).c 0 (.slice sp out.length cap) rfl) ((K8.fm.bx 1 _ _ _ rfl).c 0 (.int .i64 0) rfl) ((K8.fm.bx 2 _ _ _ rfl).c 0 (.int .i64 0) rfl)) ⟨_, rfl, K8.pre (bs := [])⟩
    case stop =>
      rintro D c pre W hD ⟨k, hk, hU⟩ ⟨rfl, E, A, hB, hC⟩ hK
      have e : PS = ([], E, A) := by rw [← hPS.out]; exact bad_end h1.out h2.out hU hB
      subst e
      refine wpIn_wide.2 ?_
      go_wp2
      have K8 := hC.mark hK (Nat.le_trans hle hD)
      exact leave_mark hK (res_three rfl agL agE agI rfl rfl rfl ((K8.bx 0 _ _ _ rfl).c 0 (.slice none 0 0) rfl) ((K8.bx 1 _ _ _ rfl).c 0 (.int .i64 E) rfl) ((K8.bx 2 _ _ _ rfl).c 0 (.int .i64 A) rfl)) ⟨_, rfl, Ct.none K8.low⟩
end Go.Proofs.YthpahpfnpapoiaaDoor
