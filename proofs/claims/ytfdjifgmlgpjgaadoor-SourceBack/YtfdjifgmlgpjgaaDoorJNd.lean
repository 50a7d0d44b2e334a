/- Which items of a source may be, how many bytes one has: the program's Check and Size. -/
import Derived.Test.YtfdjifgmlgpjgaaDoorJNc
namespace Go.Proofs.YtfdjifgmlgpjgaaDoor
open Go Go.RowKit
set_option linter.unusedVariables false
set_option maxHeartbeats 3000000
set_option maxRecDepth 20000

theorem psize_any (w : World) (r : Ri) (T : Hid (Tabs w)) : Calls Tryd.prog 16 #[.agg (i6 r)] w fun e w' => e = .returned (.tuple #[.int .i64 (sizeI r), .int .i64 (sizeE r)]) ∧ Below w.heap.size w w' := by
  have hB : Hid (Fm w [(w.heap.size, i6 r, 35)] (w.alloc (.cells (i6 r) 35))) := Fm.one w _ _
  have hM := fun v T => maybe_any v r T
  obtain ⟨S, hS⟩ : ∃ S, Hid (sizeI r = S) := ⟨_, (rfl : sizeI r = sizeI r)⟩
  obtain ⟨E, hE⟩ : ∃ S, Hid (sizeE r = S) := ⟨_, (rfl : sizeE r = sizeE r)⟩
  rw [hS.out, hE.out]
  by_cases hm : mayI r = true
  · rw [hm] at hM
    have e1 : Hid (E = 0) := by show _ = _; rw [← hE.out]; unfold sizeE; rw [if_pos hm]
    by_cases h2 : r.k = 2
    · obtain ⟨n, ho⟩ := mayI_code hm h2
      have hf := fun v T => find_some r.n n ho (nm n) (fm n) (lay (fm n * 3)) (cyc n) rfl rfl rfl rfl v T
      have e2 : Hid (S = (lay (fm n * 3) : Nat)) := by show _ = _; rw [← hS.out]; unfold sizeI; rw [if_pos hm, if_pos h2, ho]
      have k2 : (r.k == 2) = true := by rw [beq_iff_eq]; exact h2
      generalize ((fm n : Nat) : Int) = f at hf
      generalize ((lay (fm n * 3) : Nat) : Int) = L at hf e2
      generalize ((cyc n : Nat) : Int) = c at hf
      generalize nm n = X at hf
      clear hm h2 ho
      go_enter Tryd.func16, Tryd.ntmps16
      go_wp2_with (first
        | (go_at_call 28; refine (hf y2 (T.out.below K2.out.low)).mono ?_; rintro e y3 ⟨rfl, h3⟩; have K3 : Hid (Fm w [(w.heap.size, i6 r, 35), (y3.heap.size, #[.string X, .int .u8 f, .int .i64 L, .int .i64 c], 50)] (y3.alloc (.cells #[.string X, .int .u8 f, .int .i64 L, .int .i64 c] 50))) := (K2.out.below h3).new _ _; clear g0 g1 g2 g3 g4 g5 h3; have q2 := (K3.out.bx 1 _ _ _ rfl).c 2 (.int .i64 L) rfl)
        | (go_at_call 25; refine (hM y (T.out.below K1.out.low)).mono ?_; rintro e y2 ⟨rfl, h2⟩; have K2 : Hid (Fm w [(w.heap.size, i6 r, 35)] y2) := K1.out.below h2; clear d0 d1 d2 d3 d4 d5 h2; have g0 := (K2.out.bx 0 _ _ _ rfl).c 0 (.int .u8 r.k) rfl; have g1 := (K2.out.bx 0 _ _ _ rfl).c 1 (.string r.n) rfl; have g2 := (K2.out.bx 0 _ _ _ rfl).c 2 (.int .i64 r.a) rfl; have g3 := (K2.out.bx 0 _ _ _ rfl).c 3 (.string r.l) rfl; have g4 := (K2.out.bx 0 _ _ _ rfl).c 4 (.int .u8 r.p) rfl; have g5 := (K2.out.bx 0 _ _ _ rfl).c 5 (.slice r.sp r.m r.cap) rfl)
        | ((with_reducible refine at_load rt6 w.heap.size (i6 r) ?_ ?_ (.tmp 1) ?_ ?_ ?_ ?_); exact K1.out.bx 0 _ _ _ rfl; rfl; rfl; rfl; rfl)
        | ((with_reducible refine gen_world (w.alloc (.cells (i6 r) 35)) (Fm w [(w.heap.size, i6 r, 35)]) hB.out ?_); intro y K1; have d0 := (K1.out.bx 0 _ _ _ rfl).c 0 (.int .u8 r.k) rfl; have d1 := (K1.out.bx 0 _ _ _ rfl).c 1 (.string r.n) rfl; have d2 := (K1.out.bx 0 _ _ _ rfl).c 2 (.int .i64 r.a) rfl; have d3 := (K1.out.bx 0 _ _ _ rfl).c 3 (.string r.l) rfl; have d4 := (K1.out.bx 0 _ _ _ rfl).c 4 (.int .u8 r.p) rfl; have d5 := (K1.out.bx 0 _ _ _ rfl).c 5 (.slice r.sp r.m r.cap) rfl))
      (try simp only [Exit.inBlock, Exit.then])
      refine bodyPost_ret (by simp [results, Tryd.results16, go_sem]; try rfl) rfl ?_
      exact ⟨tup_ret e2.out.symm e1.out.symm, K3.out.low⟩
    · have k2 : (r.k == 2) = false := by rw [beq_eq_false_iff_ne]; exact h2
      by_cases h3 : r.k = 3
      · have k3 : (r.k == 3) = true := by rw [beq_iff_eq]; exact h3
        have e2 : Hid (S = r.m) := by show _ = _; rw [← hS.out]; unfold sizeI; rw [if_pos hm, if_neg h2, if_pos h3]
        clear hm h2 h3
        go_enter Tryd.func16, Tryd.ntmps16
        go_wp2_with (first
          | (go_at_call 25; refine (hM y (T.out.below K1.out.low)).mono ?_; rintro e y2 ⟨rfl, h2⟩; have K2 : Hid (Fm w [(w.heap.size, i6 r, 35)] y2) := K1.out.below h2; clear d0 d1 d2 d3 d4 d5 h2; have g0 := (K2.out.bx 0 _ _ _ rfl).c 0 (.int .u8 r.k) rfl; have g1 := (K2.out.bx 0 _ _ _ rfl).c 1 (.string r.n) rfl; have g2 := (K2.out.bx 0 _ _ _ rfl).c 2 (.int .i64 r.a) rfl; have g3 := (K2.out.bx 0 _ _ _ rfl).c 3 (.string r.l) rfl; have g4 := (K2.out.bx 0 _ _ _ rfl).c 4 (.int .u8 r.p) rfl; have g5 := (K2.out.bx 0 _ _ _ rfl).c 5 (.slice r.sp r.m r.cap) rfl)
          | ((with_reducible refine at_load rt6 w.heap.size (i6 r) ?_ ?_ (.tmp 1) ?_ ?_ ?_ ?_); exact K1.out.bx 0 _ _ _ rfl; rfl; rfl; rfl; rfl)
          | ((with_reducible refine gen_world (w.alloc (.cells (i6 r) 35)) (Fm w [(w.heap.size, i6 r, 35)]) hB.out ?_); intro y K1; have d0 := (K1.out.bx 0 _ _ _ rfl).c 0 (.int .u8 r.k) rfl; have d1 := (K1.out.bx 0 _ _ _ rfl).c 1 (.string r.n) rfl; have d2 := (K1.out.bx 0 _ _ _ rfl).c 2 (.int .i64 r.a) rfl; have d3 := (K1.out.bx 0 _ _ _ rfl).c 3 (.string r.l) rfl; have d4 := (K1.out.bx 0 _ _ _ rfl).c 4 (.int .u8 r.p) rfl; have d5 := (K1.out.bx 0 _ _ _ rfl).c 5 (.slice r.sp r.m r.cap) rfl))
        (try simp only [Exit.inBlock, Exit.then])
        refine bodyPost_ret (by simp [results, Tryd.results16, go_sem]; try rfl) rfl ?_
        exact ⟨tup_ret e2.out.symm e1.out.symm, K2.out.low⟩
      · have k3 : (r.k == 3) = false := by rw [beq_eq_false_iff_ne]; exact h3
        by_cases h5 : r.k = 5
        · have k5 : (r.k == 5) = true := by rw [beq_iff_eq]; exact h5
          have e2 : Hid (S = 2) := by show _ = _; rw [← hS.out]; unfold sizeI; rw [if_pos hm, if_neg h2, if_neg h3, if_pos h5]
          clear hm h2 h3 h5
          go_enter Tryd.func16, Tryd.ntmps16
          go_wp2_with (first
            | (go_at_call 25; refine (hM y (T.out.below K1.out.low)).mono ?_; rintro e y2 ⟨rfl, h2⟩; have K2 : Hid (Fm w [(w.heap.size, i6 r, 35)] y2) := K1.out.below h2; clear d0 d1 d2 d3 d4 d5 h2; have g0 := (K2.out.bx 0 _ _ _ rfl).c 0 (.int .u8 r.k) rfl; have g1 := (K2.out.bx 0 _ _ _ rfl).c 1 (.string r.n) rfl; have g2 := (K2.out.bx 0 _ _ _ rfl).c 2 (.int .i64 r.a) rfl; have g3 := (K2.out.bx 0 _ _ _ rfl).c 3 (.string r.l) rfl; have g4 := (K2.out.bx 0 _ _ _ rfl).c 4 (.int .u8 r.p) rfl; have g5 := (K2.out.bx 0 _ _ _ rfl).c 5 (.slice r.sp r.m r.cap) rfl)
            | ((with_reducible refine at_load rt6 w.heap.size (i6 r) ?_ ?_ (.tmp 1) ?_ ?_ ?_ ?_); exact K1.out.bx 0 _ _ _ rfl; rfl; rfl; rfl; rfl)
            | ((with_reducible refine gen_world (w.alloc (.cells (i6 r) 35)) (Fm w [(w.heap.size, i6 r, 35)]) hB.out ?_); intro y K1; have d0 := (K1.out.bx 0 _ _ _ rfl).c 0 (.int .u8 r.k) rfl; have d1 := (K1.out.bx 0 _ _ _ rfl).c 1 (.string r.n) rfl; have d2 := (K1.out.bx 0 _ _ _ rfl).c 2 (.int .i64 r.a) rfl; have d3 := (K1.out.bx 0 _ _ _ rfl).c 3 (.string r.l) rfl; have d4 := (K1.out.bx 0 _ _ _ rfl).c 4 (.int .u8 r.p) rfl; have d5 := (K1.out.bx 0 _ _ _ rfl).c 5 (.slice r.sp r.m r.cap) rfl))
          (try simp only [Exit.inBlock, Exit.then])
          refine bodyPost_ret (by simp [results, Tryd.results16, go_sem]; try rfl) rfl ?_
          exact ⟨tup_ret e2.out.symm e1.out.symm, K2.out.low⟩
        · have k5 : (r.k == 5) = false := by rw [beq_eq_false_iff_ne]; exact h5
          have e2 : Hid (S = 0) := by show _ = _; rw [← hS.out]; unfold sizeI; rw [if_pos hm, if_neg h2, if_neg h3, if_neg h5]
          clear hm h2 h3 h5
          go_enter Tryd.func16, Tryd.ntmps16
          go_wp2_with (first
            | (go_at_call 25; refine (hM y (T.out.below K1.out.low)).mono ?_; rintro e y2 ⟨rfl, h2⟩; have K2 : Hid (Fm w [(w.heap.size, i6 r, 35)] y2) := K1.out.below h2; clear d0 d1 d2 d3 d4 d5 h2; have g0 := (K2.out.bx 0 _ _ _ rfl).c 0 (.int .u8 r.k) rfl; have g1 := (K2.out.bx 0 _ _ _ rfl).c 1 (.string r.n) rfl; have g2 := (K2.out.bx 0 _ _ _ rfl).c 2 (.int .i64 r.a) rfl; have g3 := (K2.out.bx 0 _ _ _ rfl).c 3 (.string r.l) rfl; have g4 := (K2.out.bx 0 _ _ _ rfl).c 4 (.int .u8 r.p) rfl; have g5 := (K2.out.bx 0 _ _ _ rfl).c 5 (.slice r.sp r.m r.cap) rfl)
            | ((with_reducible refine at_load rt6 w.heap.size (i6 r) ?_ ?_ (.tmp 1) ?_ ?_ ?_ ?_); exact K1.out.bx 0 _ _ _ rfl; rfl; rfl; rfl; rfl)
            | ((with_reducible refine gen_world (w.alloc (.cells (i6 r) 35)) (Fm w [(w.heap.size, i6 r, 35)]) hB.out ?_); intro y K1; have d0 := (K1.out.bx 0 _ _ _ rfl).c 0 (.int .u8 r.k) rfl; have d1 := (K1.out.bx 0 _ _ _ rfl).c 1 (.string r.n) rfl; have d2 := (K1.out.bx 0 _ _ _ rfl).c 2 (.int .i64 r.a) rfl; have d3 := (K1.out.bx 0 _ _ _ rfl).c 3 (.string r.l) rfl; have d4 := (K1.out.bx 0 _ _ _ rfl).c 4 (.int .u8 r.p) rfl; have d5 := (K1.out.bx 0 _ _ _ rfl).c 5 (.slice r.sp r.m r.cap) rfl))
          (try simp only [Exit.inBlock, Exit.then])
          refine bodyPost_ret (by simp [results, Tryd.results16, go_sem]; try rfl) rfl ?_
          exact ⟨tup_ret e2.out.symm e1.out.symm, K2.out.low⟩
  · have e1 : Hid (E = 130) := by show _ = _; rw [← hE.out]; unfold sizeE; rw [if_neg hm]
    have e2 : Hid (S = 0) := by show _ = _; rw [← hS.out]; unfold sizeI; rw [if_neg hm]
    rw [Bool.eq_false_iff.2 hm] at hM
    clear hm
    go_enter Tryd.func16, Tryd.ntmps16
    go_wp2_with (first
      | (go_at_call 25; refine (hM y (T.out.below K1.out.low)).mono ?_; rintro e y2 ⟨rfl, h2⟩; have K2 : Hid (Fm w [(w.heap.size, i6 r, 35)] y2) := K1.out.below h2; clear d0 d1 d2 d3 d4 d5 h2; have g0 := (K2.out.bx 0 _ _ _ rfl).c 0 (.int .u8 r.k) rfl; have g1 := (K2.out.bx 0 _ _ _ rfl).c 1 (.string r.n) rfl; have g2 := (K2.out.bx 0 _ _ _ rfl).c 2 (.int .i64 r.a) rfl; have g3 := (K2.out.bx 0 _ _ _ rfl).c 3 (.string r.l) rfl; have g4 := (K2.out.bx 0 _ _ _ rfl).c 4 (.int .u8 r.p) rfl; have g5 := (K2.out.bx 0 _ _ _ rfl).c 5 (.slice r.sp r.m r.cap) rfl)
      | ((with_reducible refine at_load rt6 w.heap.size (i6 r) ?_ ?_ (.tmp 1) ?_ ?_ ?_ ?_); exact K1.out.bx 0 _ _ _ rfl; rfl; rfl; rfl; rfl)
      | ((with_reducible refine gen_world (w.alloc (.cells (i6 r) 35)) (Fm w [(w.heap.size, i6 r, 35)]) hB.out ?_); intro y K1; have d0 := (K1.out.bx 0 _ _ _ rfl).c 0 (.int .u8 r.k) rfl; have d1 := (K1.out.bx 0 _ _ _ rfl).c 1 (.string r.n) rfl; have d2 := (K1.out.bx 0 _ _ _ rfl).c 2 (.int .i64 r.a) rfl; have d3 := (K1.out.bx 0 _ _ _ rfl).c 3 (.string r.l) rfl; have d4 := (K1.out.bx 0 _ _ _ rfl).c 4 (.int .u8 r.p) rfl; have d5 := (K1.out.bx 0 _ _ _ rfl).c 5 (.slice r.sp r.m r.cap) rfl))
    (try simp only [Exit.inBlock, Exit.then])
    refine bodyPost_ret (by simp [results, Tryd.results16, go_sem]; try rfl) rfl ?_
    exact ⟨tup_ret e2.out.symm e1.out.symm, K2.out.low⟩

def z0 : Ri := ⟨0, ⟨#[]⟩, 0, ⟨#[]⟩, 0, none, 0, 0⟩
theorem one6 (r : Ri) : (i6 r).all (·.oneCell') = true := by simp [i6, Value.oneCell']
theorem pcheck_any (w : World) (sp : Option Addr) (cap : Nat) (l : List Ri) (hl : Hid (LI w sp l)) (hn : l.length ≤ 9223372036854775807) (T : Hid (Tabs w)) :
    Calls Tryd.prog 12 #[.slice sp l.length cap] w fun e w' => e = .returned (.tuple #[.int .i64 (checkE l), .int .i64 (checkN l)]) ∧ Below w.heap.size w w' := by
  obtain ⟨n, hn'⟩ : ∃ n, l.length = n := ⟨_, rfl⟩
  have ni : (n : Int) ≤ 9223372036854775807 := by omega
  by_cases hbig : 4096 < n
  · have e : checkE l = 2 := by unfold checkE; rw [if_pos (by omega)]
    have e' : checkN l = 0 := by unfold checkN; rw [if_pos (by omega)]
    rw [e, e', hn']
    have q : decide ((4096 : Int) < n) = true := by simp; omega
    clear hbig hn hn' e e'
    go_enter Tryd.func12, Tryd.ntmps12
    go_wp2
    go_ret2
    exact ⟨rfl, Below.refl _ _⟩
  obtain ⟨R, hR⟩ : ∃ R, checkE l = R := ⟨_, rfl⟩
  obtain ⟨N, hN⟩ : ∃ R, checkN l = R := ⟨_, rfl⟩
  have hR' : Hid (R = (if (badI l).isSome then 130 else 0) ∧ N = ((badI l).getD 0 : Nat)) := by
    refine ⟨?_, ?_⟩
    · rw [← hR]
      unfold checkE
      rw [if_neg (by omega)]
    · rw [← hN]
      unfold checkN
      rw [if_neg (by omega)]
  rw [hR, hN, hn']
  have q : decide ((4096 : Int) < n) = false := by simp; omega
  have hl' : Hid (l.length = n) := hn'
  have ni4 : (n : Int) ≤ 4096 := by omega
  clear hR hN hbig hn hn' ni
  go_enter Tryd.func12, Tryd.ntmps12
  go_wp2
  go_loopw [11] (fun i wz => ∃ (j : Nat) (y : World), y = wz ∧ i = .int .i64 (j : Int) ∧ Hid (j ≤ n ∧ ∀ i (hi : i < l.length), i < j → mayI l[i] = true) ∧ Hid (Below w.heap.size w y)) (fun i _ => (n - intOf i).toNat)
  case atStart => exact ⟨0, w, rfl, rfl, ⟨by omega, fun i _ h => absurd h (by omega)⟩, Below.refl _ _⟩
  case round =>
    obtain ⟨j, y, rfl, rfl, J, K⟩ := hrel
    by_cases hlt : j < n
    · have hjl : j < l.length := by rw [hl'.out]; exact hlt
      obtain ⟨gb, ob, rfl, hc0⟩ := hl.out j l[j] (List.getElem?_eq_getElem hjl)
      have hc : Hid (y.rangeAt gb (ob + j * 6) (i6 l[j]).toList) := range_keep hc0 K.out
      clear hc0
      have ij := fun v => idxP (g := gb) (off := ob) (len := n) (cap := cap) Tryd.underlying23 (s := 6) (by kernel_rfl) .i64 j v hlt
      have hji : (j : Int) < n := by omega
      have hlt' : Hid (j < n) := hlt
      have hM := fun v T => maybe_any v l[j] T
      by_cases hb : mayI l[j] = true
      · have fin : Hid (∀ i (hi : i < l.length), i < j + 1 → mayI l[i] = true) := fun i hi h => by
          rcases Nat.lt_succ_iff_lt_or_eq.1 h with h' | rfl
          · exact J.out.2 i hi h'
          · exact hb
        rw [hb] at hM
        generalize l[j] = s at hc hM
        clear hlt hb hjl
        go_wp2_with (first
          | (go_at_call 25; refine (hM y2 (T.out.below (K.out.trans (K2.out.low.mono K.out.size)))).mono ?_; rintro e y3 ⟨rfl, h3⟩; have U2 : Hid (Below w.heap.size w y3) := K.out.trans ((K2.out.low.trans (h3.mono K2.out.low.size)).mono K.out.size); clear h3)
          | ((with_reducible refine at_load rt6 y.heap.size (i6 s) ?_ ?_ (.tmp 5) ?_ ?_ ?_ ?_); exact K2.out.bx 0 _ _ _ rfl; rfl; rfl; rfl; rfl)
          | ((with_reducible refine at_st rt6 y.heap.size (i6 z0) (i6 s) ?_ ?_ ?_ ?_ (.tmp 5) (.tmp 15) ?_ ?_ ?_ ?_ ?_); exact alloc_last' y _; rfl; rfl; exact one6 _; rfl; rfl; rfl; rfl; intro y2 hw2; have K2 : Hid (Fm y [(y.heap.size, i6 s, 35)] y2) := (Fm.one y (i6 z0) 35).put 0 _ _ _ _ rfl hw2.out; clear hw2)
          | ((with_reducible refine at_loadm rt6 gb (ob + j * 6) (i6 s) ?_ ?_ (.tmp 14) ?_ ?_ ?_ ?_); exact hc.out; rfl; kernel_rfl; rfl; rfl))
        go_roundw
        case rel => exact ⟨j + 1, _, rfl, by simp, ⟨by have := hlt'.out; omega, fin.out⟩, U2⟩
        case measure => have := hlt'.out; simp [intOf]; omega
      · have fin : Hid (R = 130 ∧ N = (j : Int)) := by
          have hb' := badI_some J.out.2 hjl (Bool.eq_false_iff.2 hb)
          obtain ⟨r1, r2⟩ := hR'.out
          rw [hb'] at r1 r2
          exact ⟨r1, r2⟩
        rw [Bool.eq_false_iff.2 hb] at hM
        generalize l[j] = s at hc hM
        clear hlt hb hjl
        go_wp2_with (first
          | (go_at_call 25; refine (hM y2 (T.out.below (K.out.trans (K2.out.low.mono K.out.size)))).mono ?_; rintro e y3 ⟨rfl, h3⟩; have U2 : Hid (Below w.heap.size w y3) := K.out.trans ((K2.out.low.trans (h3.mono K2.out.low.size)).mono K.out.size); clear h3)
          | ((with_reducible refine at_load rt6 y.heap.size (i6 s) ?_ ?_ (.tmp 5) ?_ ?_ ?_ ?_); exact K2.out.bx 0 _ _ _ rfl; rfl; rfl; rfl; rfl)
          | ((with_reducible refine at_st rt6 y.heap.size (i6 z0) (i6 s) ?_ ?_ ?_ ?_ (.tmp 5) (.tmp 15) ?_ ?_ ?_ ?_ ?_); exact alloc_last' y _; rfl; rfl; exact one6 _; rfl; rfl; rfl; rfl; intro y2 hw2; have K2 : Hid (Fm y [(y.heap.size, i6 s, 35)] y2) := (Fm.one y (i6 z0) 35).put 0 _ _ _ _ rfl hw2.out; clear hw2)
          | ((with_reducible refine at_loadm rt6 gb (ob + j * 6) (i6 s) ?_ ?_ (.tmp 14) ?_ ?_ ?_ ?_); exact hc.out; rfl; kernel_rfl; rfl; rfl))
        go_ret2
        exact ⟨tup_ret fin.out.1.symm fin.out.2.symm, U2.out⟩
    · have hje : j = n := by have := J.out.1; omega
      subst hje
      have fin : Hid (R = 0 ∧ N = 0) := by
        have hb' := badI_none (l := l) fun i hi => J.out.2 i hi (by rw [← hl'.out]; exact hi)
        obtain ⟨r1, r2⟩ := hR'.out
        rw [hb'] at r1 r2
        exact ⟨r1, r2⟩
      clear hlt
      go_wp2
      go_ret2
      exact ⟨tup_ret fin.out.1.symm fin.out.2.symm, K.out⟩
end Go.Proofs.YtfdjifgmlgpjgaaDoor
