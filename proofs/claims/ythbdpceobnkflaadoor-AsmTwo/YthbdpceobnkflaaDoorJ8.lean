/- Which items of a source may be, how many bytes one has: the program's Check and Size. Strings as lists of bytes, rows of strings and of bytes in memory. An item of data as it is written, by the document. A source written as a text, by the document. A source that is laid and filled: by plain mathematics. Rows of bytes as they lie in memory. -/
import Derived.Test.YthbdpceobnkflaaDoorJ7
import Derived.Test.YthbdpceobnkflaaDoorJ6
import Derived.Test.YthbdpceobnkflaaDoorRows
import Derived.WalkKit
import Derived.WalkSpells
import Derived.WalkLawsBesides
import Derived.Deep.QuietTactic
import Derived.Deep.OwnRows
import Derived.Laws.IdiomStrings
import Derived.Laws.AppendOwn
import Derived.Lib.AppendStr
import Derived.Test.YthbdpceobnkflaaDoorJ2
import Derived.Test.YthbdpceobnkflaaDoorJ3
import Derived.Test.YthbdpceobnkflaaDoorJ5
import Derived.Deep.MidRow
namespace Go.Proofs.YthbdpceobnkflaaDoor
open Go Go.RowKit
set_option linter.unusedVariables false
set_option maxHeartbeats 3000000
set_option maxRecDepth 20000

theorem psize_any (w : World) (r : Ri) (T : Hid (Tabs w)) : Calls Tryd.prog 54 #[.agg (i6 r)] w fun e w' => e = .returned (.tuple #[.int .i64 (sizeI r), .int .i64 (sizeE r)]) ∧ Below w.heap.size w w' := by
  have hB : Hid (Fm w [(w.heap.size, i6 r, 40)] (w.alloc (.cells (i6 r) 40))) := Fm.one w _ _
  have hM := fun v T => maybe_any v r T
  obtain ⟨S, hS⟩ : ∃ S, Hid (sizeI r = S) := ⟨_, (rfl : sizeI r = sizeI r)⟩
  obtain ⟨E, hE⟩ : ∃ S, Hid (sizeE r = S) := ⟨_, (rfl : sizeE r = sizeE r)⟩
  rw [hS.out, hE.out]
  by_cases hm : mayI r = true
  · rw [hm] at hM
    have e1 : Hid (E = 0) := by show _ = _; rw [← hE.out]; unfold sizeE; rw [if_pos hm]
    by_cases h2 : r.k = 2
    · obtain ⟨n, ho⟩ := mayI_code hm h2
      have hf := fun v T => find_some r.n n ho (nm n) (fm n) (lay (fm n * 3)) (cyc n) rfl rfl rfl rfl v T
      have e2 : Hid (S = (lay (fm n * 3) : Nat)) := by show _ = _; rw [← hS.out]; unfold sizeI; rw [if_pos hm, if_pos h2, ho]
      have k2 : (r.k == 2) = true := by rw [beq_iff_eq]; exact h2
      generalize ((fm n : Nat) : Int) = f at hf
      generalize ((lay (fm n * 3) : Nat) : Int) = L at hf e2
      generalize ((cyc n : Nat) : Int) = c at hf
      generalize nm n = X at hf
      clear hm h2 ho
      go_enter Tryd.func54, Tryd.ntmps54
      go_wp2_with (first
        | (go_at_call 30; refine (hf y2 (T.out.below K2.out.low)).mono ?_; rintro e y3 ⟨rfl, h3⟩; have K3 : Hid (Fm w [(w.heap.size, i6 r, 40), (y3.heap.size, #[.string X, .int .u8 f, .int .i64 L, .int .i64 c], 82)] (y3.alloc (.cells #[.string X, .int .u8 f, .int .i64 L, .int .i64 c] 82))) := (K2.out.below h3).new _ _; clear g0 g1 g2 g3 g4 g5 h3; have q2 := (K3.out.bx 1 _ _ _ rfl).c 2 (.int .i64 L) rfl)
        | (go_at_call 32; refine (hM y (T.out.below K1.out.low)).mono ?_; rintro e y2 ⟨rfl, h2⟩; have K2 : Hid (Fm w [(w.heap.size, i6 r, 40)] y2) := K1.out.below h2; clear d0 d1 d2 d3 d4 d5 h2; have g0 := (K2.out.bx 0 _ _ _ rfl).c 0 (.int .u8 r.k) rfl; have g1 := (K2.out.bx 0 _ _ _ rfl).c 1 (.string r.n) rfl; have g2 := (K2.out.bx 0 _ _ _ rfl).c 2 (.int .i64 r.a) rfl; have g3 := (K2.out.bx 0 _ _ _ rfl).c 3 (.string r.l) rfl; have g4 := (K2.out.bx 0 _ _ _ rfl).c 4 (.int .u8 r.p) rfl; have g5 := (K2.out.bx 0 _ _ _ rfl).c 5 (.slice r.sp r.m r.cap) rfl)
        | ((with_reducible refine at_load rt6 w.heap.size (i6 r) ?_ ?_ (.tmp 1) ?_ ?_ ?_ ?_); exact K1.out.bx 0 _ _ _ rfl; rfl; rfl; rfl; rfl)
        | ((with_reducible refine gen_world (w.alloc (.cells (i6 r) 40)) (Fm w [(w.heap.size, i6 r, 40)]) hB.out ?_); intro y K1; have d0 := (K1.out.bx 0 _ _ _ rfl).c 0 (.int .u8 r.k) rfl; have d1 := (K1.out.bx 0 _ _ _ rfl).c 1 (.string r.n) rfl; have d2 := (K1.out.bx 0 _ _ _ rfl).c 2 (.int .i64 r.a) rfl; have d3 := (K1.out.bx 0 _ _ _ rfl).c 3 (.string r.l) rfl; have d4 := (K1.out.bx 0 _ _ _ rfl).c 4 (.int .u8 r.p) rfl; have d5 := (K1.out.bx 0 _ _ _ rfl).c 5 (.slice r.sp r.m r.cap) rfl))
      (try simp only [Exit.inBlock, Exit.then])
      refine bodyPost_ret (by simp [results, Tryd.results54, go_sem]; try rfl) rfl ?_
      exact ⟨tup_ret e2.out.symm e1.out.symm, K3.out.low⟩
    · have k2 : (r.k == 2) = false := by rw [beq_eq_false_iff_ne]; exact h2
      by_cases h3 : r.k = 3
      · have k3 : (r.k == 3) = true := by rw [beq_iff_eq]; exact h3
        have e2 : Hid (S = r.m) := by show _ = _; rw [← hS.out]; unfold sizeI; rw [if_pos hm, if_neg h2, if_pos h3]
        clear hm h2 h3
        go_enter Tryd.func54, Tryd.ntmps54
        go_wp2_with (first
          | (go_at_call 32; refine (hM y (T.out.below K1.out.low)).mono ?_; rintro e y2 ⟨rfl, h2⟩; have K2 : Hid (Fm w [(w.heap.size, i6 r, 40)] y2) := K1.out.below h2; clear d0 d1 d2 d3 d4 d5 h2; have g0 := (K2.out.bx 0 _ _ _ rfl).c 0 (.int .u8 r.k) rfl; have g1 := (K2.out.bx 0 _ _ _ rfl).c 1 (.string r.n) rfl; have g2 := (K2.out.bx 0 _ _ _ rfl).c 2 (.int .i64 r.a) rfl; have g3 := (K2.out.bx 0 _ _ _ rfl).c 3 (.string r.l) rfl; have g4 := (K2.out.bx 0 _ _ _ rfl).c 4 (.int .u8 r.p) rfl; have g5 := (K2.out.bx 0 _ _ _ rfl).c 5 (.slice r.sp r.m r.cap) rfl)
          | ((with_reducible refine at_load rt6 w.heap.size (i6 r) ?_ ?_ (.tmp 1) ?_ ?_ ?_ ?_); exact K1.out.bx 0 _ _ _ rfl; rfl; rfl; rfl; rfl)
          | ((with_reducible refine gen_world (w.alloc (.cells (i6 r) 40)) (Fm w [(w.heap.size, i6 r, 40)]) hB.out ?_); intro y K1; have d0 := (K1.out.bx 0 _ _ _ rfl).c 0 (.int .u8 r.k) rfl; have d1 := (K1.out.bx 0 _ _ _ rfl).c 1 (.string r.n) rfl; have d2 := (K1.out.bx 0 _ _ _ rfl).c 2 (.int .i64 r.a) rfl; have d3 := (K1.out.bx 0 _ _ _ rfl).c 3 (.string r.l) rfl; have d4 := (K1.out.bx 0 _ _ _ rfl).c 4 (.int .u8 r.p) rfl; have d5 := (K1.out.bx 0 _ _ _ rfl).c 5 (.slice r.sp r.m r.cap) rfl))
        (try simp only [Exit.inBlock, Exit.then])
        refine bodyPost_ret (by simp [results, Tryd.results54, go_sem]; try rfl) rfl ?_
        exact ⟨tup_ret e2.out.symm e1.out.symm, K2.out.low⟩
      · have k3 : (r.k == 3) = false := by rw [beq_eq_false_iff_ne]; exact h3
        by_cases h5 : r.k = 5
        · have k5 : (r.k == 5) = true := by rw [beq_iff_eq]; exact h5
          have e2 : Hid (S = 2) := by show _ = _; rw [← hS.out]; unfold sizeI; rw [if_pos hm, if_neg h2, if_neg h3, if_pos h5]
          clear hm h2 h3 h5
          go_enter Tryd.func54, Tryd.ntmps54
          go_wp2_with (first
            | (go_at_call 32; refine (hM y (T.out.below K1.out.low)).mono ?_; rintro e y2 ⟨rfl, h2⟩; have K2 : Hid (Fm w [(w.heap.size, i6 r, 40)] y2) := K1.out.below h2; clear d0 d1 d2 d3 d4 d5 h2; have g0 := (K2.out.bx 0 _ _ _ rfl).c 0 (.int .u8 r.k) rfl; have g1 := (K2.out.bx 0 _ _ _ rfl).c 1 (.string r.n) rfl; have g2 := (K2.out.bx 0 _ _ _ rfl).c 2 (.int .i64 r.a) rfl; have g3 := (K2.out.bx 0 _ _ _ rfl).c 3 (.string r.l) rfl; have g4 := (K2.out.bx 0 _ _ _ rfl).c 4 (.int .u8 r.p) rfl; have g5 := (K2.out.bx 0 _ _ _ rfl).c 5 (.slice r.sp r.m r.cap) rfl)
            | ((with_reducible refine at_load rt6 w.heap.size (i6 r) ?_ ?_ (.tmp 1) ?_ ?_ ?_ ?_); exact K1.out.bx 0 _ _ _ rfl; rfl; rfl; rfl; rfl)
            | ((with_reducible refine gen_world (w.alloc (.cells (i6 r) 40)) (Fm w [(w.heap.size, i6 r, 40)]) hB.out ?_); intro y K1; have d0 := (K1.out.bx 0 _ _ _ rfl).c 0 (.int .u8 r.k) rfl; have d1 := (K1.out.bx 0 _ _ _ rfl).c 1 (.string r.n) rfl; have d2 := (K1.out.bx 0 _ _ _ rfl).c 2 (.int .i64 r.a) rfl; have d3 := (K1.out.bx 0 _ _ _ rfl).c 3 (.string r.l) rfl; have d4 := (K1.out.bx 0 _ _ _ rfl).c 4 (.int .u8 r.p) rfl; have d5 := (K1.out.bx 0 _ _ _ rfl).c 5 (.slice r.sp r.m r.cap) rfl))
          (try simp only [Exit.inBlock, Exit.then])
          refine bodyPost_ret (by simp [results, Tryd.results54, go_sem]; try rfl) rfl ?_
          exact ⟨tup_ret e2.out.symm e1.out.symm, K2.out.low⟩
        · have k5 : (r.k == 5) = false := by rw [beq_eq_false_iff_ne]; exact h5
          have e2 : Hid (S = 0) := by show _ = _; rw [← hS.out]; unfold sizeI; rw [if_pos hm, if_neg h2, if_neg h3, if_neg h5]
          clear hm h2 h3 h5
          go_enter Tryd.func54, Tryd.ntmps54
          go_wp2_with (first
            | (go_at_call 32; refine (hM y (T.out.below K1.out.low)).mono ?_; rintro e y2 ⟨rfl, h2⟩; have K2 : Hid (Fm w [(w.heap.size, i6 r, 40)] y2) := K1.out.below h2; clear d0 d1 d2 d3 d4 d5 h2; have g0 := (K2.out.bx 0 _ _ _ rfl).c 0 (.int .u8 r.k) rfl; have g1 := (K2.out.bx 0 _ _ _ rfl).c 1 (.string r.n) rfl; have g2 := (K2.out.bx 0 _ _ _ rfl).c 2 (.int .i64 r.a) rfl; have g3 := (K2.out.bx 0 _ _ _ rfl).c 3 (.string r.l) rfl; have g4 := (K2.out.bx 0 _ _ _ rfl).c 4 (.int .u8 r.p) rfl; have g5 := (K2.out.bx 0 _ _ _ rfl).c 5 (.slice r.sp r.m r.cap) rfl)
            | ((with_reducible refine at_load rt6 w.heap.size (i6 r) ?_ ?_ (.tmp 1) ?_ ?_ ?_ ?_); exact K1.out.bx 0 _ _ _ rfl; rfl; rfl; rfl; rfl)
            | ((with_reducible refine gen_world (w.alloc (.cells (i6 r) 40)) (Fm w [(w.heap.size, i6 r, 40)]) hB.out ?_); intro y K1; have d0 := (K1.out.bx 0 _ _ _ rfl).c 0 (.int .u8 r.k) rfl; have d1 := (K1.out.bx 0 _ _ _ rfl).c 1 (.string r.n) rfl; have d2 := (K1.out.bx 0 _ _ _ rfl).c 2 (.int .i64 r.a) rfl; have d3 := (K1.out.bx 0 _ _ _ rfl).c 3 (.string r.l) rfl; have d4 := (K1.out.bx 0 _ _ _ rfl).c 4 (.int .u8 r.p) rfl; have d5 := (K1.out.bx 0 _ _ _ rfl).c 5 (.slice r.sp r.m r.cap) rfl))
          (try simp only [Exit.inBlock, Exit.then])
          refine bodyPost_ret (by simp [results, Tryd.results54, go_sem]; try rfl) rfl ?_
          exact ⟨tup_ret e2.out.symm e1.out.symm, K2.out.low⟩
  · have e1 : Hid (E = 130) := by show _ = _; rw [← hE.out]; unfold sizeE; rw [if_neg hm]
    have e2 : Hid (S = 0) := by show _ = _; rw [← hS.out]; unfold sizeI; rw [if_neg hm]
    rw [Bool.eq_false_iff.2 hm] at hM
    clear hm
    go_enter Tryd.func54, Tryd.ntmps54
    go_wp2_with (first
      | (go_at_call 32; refine (hM y (T.out.below K1.out.low)).mono ?_; rintro e y2 ⟨rfl, h2⟩; have K2 : Hid (Fm w [(w.heap.size, i6 r, 40)] y2) := K1.out.below h2; clear d0 d1 d2 d3 d4 d5 h2; have g0 := (K2.out.bx 0 _ _ _ rfl).c 0 (.int .u8 r.k) rfl; have g1 := (K2.out.bx 0 _ _ _ rfl).c 1 (.string r.n) rfl; have g2 := (K2.out.bx 0 _ _ _ rfl).c 2 (.int .i64 r.a) rfl; have g3 := (K2.out.bx 0 _ _ _ rfl).c 3 (.string r.l) rfl; have g4 := (K2.out.bx 0 _ _ _ rfl).c 4 (.int .u8 r.p) rfl; have g5 := (K2.out.bx 0 _ _ _ rfl).c 5 (.slice r.sp r.m r.cap) rfl)
      | ((with_reducible refine at_load rt6 w.heap.size (i6 r) ?_ ?_ (.tmp 1) ?_ ?_ ?_ ?_); exact K1.out.bx 0 _ _ _ rfl; rfl; rfl; rfl; rfl)
      | ((with_reducible refine gen_world (w.alloc (.cells (i6 r) 40)) (Fm w [(w.heap.size, i6 r, 40)]) hB.out ?_); intro y K1; have d0 := (K1.out.bx 0 _ _ _ rfl).c 0 (.int .u8 r.k) rfl; have d1 := (K1.out.bx 0 _ _ _ rfl).c 1 (.string r.n) rfl; have d2 := (K1.out.bx 0 _ _ _ rfl).c 2 (.int .i64 r.a) rfl; have d3 := (K1.out.bx 0 _ _ _ rfl).c 3 (.string r.l) rfl; have d4 := (K1.out.bx 0 _ _ _ rfl).c 4 (.int .u8 r.p) rfl; have d5 := (K1.out.bx 0 _ _ _ rfl).c 5 (.slice r.sp r.m r.cap) rfl))
    (try simp only [Exit.inBlock, Exit.then])
    refine bodyPost_ret (by simp [results, Tryd.results54, go_sem]; try rfl) rfl ?_
    exact ⟨tup_ret e2.out.symm e1.out.symm, K2.out.low⟩

def z0 : Ri := ⟨0, ⟨#[]⟩, 0, ⟨#[]⟩, 0, none, 0, 0⟩
theorem one6 (r : Ri) : (i6 r).all (·.oneCell') = true := by simp [i6, Value.oneCell']
theorem pcheck_any (w : World) (sp : Option Addr) (cap : Nat) (l : List Ri) (hl : Hid (LI w sp l)) (hn : l.length ≤ 9223372036854775807) (T : Hid (Tabs w)) :
    Calls Tryd.prog 20 #[.slice sp l.length cap] w fun e w' => e = .returned (.tuple #[.int .i64 (checkE l), .int .i64 (checkN l)]) ∧ Below w.heap.size w w' := by
  obtain ⟨n, hn'⟩ : ∃ n, l.length = n := ⟨_, rfl⟩
  have ni : (n : Int) ≤ 9223372036854775807 := by omega
  by_cases hbig : 4096 < n
  · have e : checkE l = 2 := by unfold checkE; rw [if_pos (by omega)]
    have e' : checkN l = 0 := by unfold checkN; rw [if_pos (by omega)]
    rw [e, e', hn']
    have q : decide ((4096 : Int) < n) = true := by simp; omega
    clear hbig hn hn' e e'
    go_enter Tryd.func20, Tryd.ntmps20
    go_wp2
    go_ret2
    exact ⟨rfl, Below.refl _ _⟩
  obtain ⟨R, hR⟩ : ∃ R, checkE l = R := ⟨_, rfl⟩
  obtain ⟨N, hN⟩ : ∃ R, checkN l = R := ⟨_, rfl⟩
  have hR' : Hid (R = (if (badI l).isSome then 130 else 0) ∧ N = ((badI l).getD 0 : Nat)) := by
    refine ⟨?_, ?_⟩
    · rw [← hR]
      unfold checkE
      rw [if_neg (by omega)]
    · rw [← hN]
      unfold checkN
      rw [if_neg (by omega)]
  rw [hR, hN, hn']
  have q : decide ((4096 : Int) < n) = false := by simp; omega
  have hl' : Hid (l.length = n) := hn'
  have ni4 : (n : Int) ≤ 4096 := by omega
  clear hR hN hbig hn hn' ni
  go_enter Tryd.func20, Tryd.ntmps20
  go_wp2
  go_loopw [11] (fun i wz => ∃ (j : Nat) (y : World), y = wz ∧ i = .int .i64 (j : Int) ∧ Hid (j ≤ n ∧ ∀ i (hi : i < l.length), i < j → mayI l[i] = true) ∧ Hid (Below w.heap.size w y)) (fun i _ => (n - intOf i).toNat)
  case atStart => exact ⟨0, w, rfl, rfl, ⟨by omega, fun i _ h => absurd h (by omega)⟩, Below.refl _ _⟩
  case round =>
    obtain ⟨j, y, rfl, rfl, J, K⟩ := hrel
    by_cases hlt : j < n
    · have hjl : j < l.length := by rw [hl'.out]; exact hlt
      obtain ⟨gb, ob, rfl, hc0⟩ := hl.out j l[j] (List.getElem?_eq_getElem hjl)
      have hc : Hid (y.rangeAt gb (ob + j * 6) (i6 l[j]).toList) := range_keep hc0 K.out
      clear hc0
      have ij := fun v => idxP (g := gb) (off := ob) (len := n) (cap := cap) Tryd.underlying22 (s := 6) (by kernel_rfl) .i64 j v hlt
      have hji : (j : Int) < n := by omega
      have hlt' : Hid (j < n) := hlt
      have hM := fun v T => maybe_any v l[j] T
      by_cases hb : mayI l[j] = true
      · have fin : Hid (∀ i (hi : i < l.length), i < j + 1 → mayI l[i] = true) := fun i hi h => by
          rcases Nat.lt_succ_iff_lt_or_eq.1 h with h' | rfl
          · exact J.out.2 i hi h'
          · exact hb
        rw [hb] at hM
        generalize l[j] = s at hc hM
        clear hlt hb hjl
        go_wp2_with (first
          | (go_at_call 32; refine (hM y2 (T.out.below (K.out.trans (K2.out.low.mono K.out.size)))).mono ?_; rintro e y3 ⟨rfl, h3⟩; have U2 : Hid (Below w.heap.size w y3) := K.out.trans ((K2.out.low.trans (h3.mono K2.out.low.size)).mono K.out.size); clear h3)
          | ((with_reducible refine at_load rt6 y.heap.size (i6 s) ?_ ?_ (.tmp 5) ?_ ?_ ?_ ?_); exact K2.out.bx 0 _ _ _ rfl; rfl; rfl; rfl; rfl)
          | ((with_reducible refine at_st rt6 y.heap.size (i6 z0) (i6 s) ?_ ?_ ?_ ?_ (.tmp 5) (.tmp 15) ?_ ?_ ?_ ?_ ?_); exact alloc_last' y _; rfl; rfl; exact one6 _; rfl; rfl; rfl; rfl; intro y2 hw2; have K2 : Hid (Fm y [(y.heap.size, i6 s, 40)] y2) := (Fm.one y (i6 z0) 40).put 0 _ _ _ _ rfl hw2.out; clear hw2)
          | ((with_reducible refine at_loadm rt6 gb (ob + j * 6) (i6 s) ?_ ?_ (.tmp 14) ?_ ?_ ?_ ?_); exact hc.out; rfl; kernel_rfl; rfl; rfl))
        go_roundw
        case rel => exact ⟨j + 1, _, rfl, by simp, ⟨by have := hlt'.out; omega, fin.out⟩, U2⟩
        case measure => have := hlt'.out; simp [intOf]; omega
      · have fin : Hid (R = 130 ∧ N = (j : Int)) := by
          have hb' := badI_some J.out.2 hjl (Bool.eq_false_iff.2 hb)
          obtain ⟨r1, r2⟩ := hR'.out
          rw [hb'] at r1 r2
          exact ⟨r1, r2⟩
        rw [Bool.eq_false_iff.2 hb] at hM
        generalize l[j] = s at hc hM
        clear hlt hb hjl
        go_wp2_with (first
          | (go_at_call 32; refine (hM y2 (T.out.below (K.out.trans (K2.out.low.mono K.out.size)))).mono ?_; rintro e y3 ⟨rfl, h3⟩; have U2 : Hid (Below w.heap.size w y3) := K.out.trans ((K2.out.low.trans (h3.mono K2.out.low.size)).mono K.out.size); clear h3)
          | ((with_reducible refine at_load rt6 y.heap.size (i6 s) ?_ ?_ (.tmp 5) ?_ ?_ ?_ ?_); exact K2.out.bx 0 _ _ _ rfl; rfl; rfl; rfl; rfl)
          | ((with_reducible refine at_st rt6 y.heap.size (i6 z0) (i6 s) ?_ ?_ ?_ ?_ (.tmp 5) (.tmp 15) ?_ ?_ ?_ ?_ ?_); exact alloc_last' y _; rfl; rfl; exact one6 _; rfl; rfl; rfl; rfl; intro y2 hw2; have K2 : Hid (Fm y [(y.heap.size, i6 s, 40)] y2) := (Fm.one y (i6 z0) 40).put 0 _ _ _ _ rfl hw2.out; clear hw2)
          | ((with_reducible refine at_loadm rt6 gb (ob + j * 6) (i6 s) ?_ ?_ (.tmp 14) ?_ ?_ ?_ ?_); exact hc.out; rfl; kernel_rfl; rfl; rfl))
        go_ret2
        exact ⟨tup_ret fin.out.1.symm fin.out.2.symm, U2.out⟩
    · have hje : j = n := by have := J.out.1; omega
      subst hje
      have fin : Hid (R = 0 ∧ N = 0) := by
        have hb' := badI_none (l := l) fun i hi => J.out.2 i hi (by rw [← hl'.out]; exact hi)
        obtain ⟨r1, r2⟩ := hR'.out
        rw [hb'] at r1 r2
        exact ⟨r1, r2⟩
      clear hlt
      go_wp2
      go_ret2
      exact ⟨tup_ret fin.out.1.symm fin.out.2.symm, K.out⟩
end Go.Proofs.YthbdpceobnkflaaDoor

namespace Go.Proofs.YthbdpceobnkflaaDoor
open Go Go.RowKit
set_option linter.unusedVariables false
set_option maxHeartbeats 3000000
set_option maxRecDepth 20000

def strL (s : ByteArray) : List UInt8 := s.data.toList
theorem strL_len (s : ByteArray) : (strL s).length = s.size := by unfold strL; rw [Array.length_toList]; rfl
theorem infoB : (Tryd.prog.info? 5).map (fun i => (i.zero, i.size, i.bytes)) = some (some (.int .u8 0), 1, 1) := by kernel_rfl
def byV (b : UInt8) : Value := .int .u8 (b.toNat : Int)
end Go.Proofs.YthbdpceobnkflaaDoor

namespace Go.Proofs.YthbdpceobnkflaaDoor
open Go Go.RowKit
set_option linter.unusedVariables false
set_option maxHeartbeats 3000000
set_option maxRecDepth 20000

/-- Bytes that lie in a row. -/
def LB8 (x : World) (sp : Option Addr) (l : List UInt8) : Prop := ∀ j b, l[j]? = some b → ∃ g o, sp = some ⟨g, o, none⟩ ∧ x.cell? ⟨g, o + j, none⟩ = some (byV b)
theorem LB8.below {x y : World} {sp : Option Addr} {l : List UInt8} (h : LB8 x sp l) (hb : Below x.heap.size x y) : LB8 y sp l := fun j b hj => by
  obtain ⟨g, o, e, c⟩ := h j b hj
  exact ⟨g, o, e, (hb.cell (p := ⟨g, o + j, none⟩) (World.block_lt_of_cell? x _ c)).trans c⟩
end Go.Proofs.YthbdpceobnkflaaDoor

namespace Go.Proofs.YthbdpceobnkflaaDoor
open Go Go.RowKit
set_option linter.unusedVariables false
set_option maxHeartbeats 2000000
set_option maxRecDepth 20000

/-- An item with its bytes. -/
abbrev Itm := Ri × List UInt8
/-- Items whose bytes lie where they say. -/
def Good (w : World) (x : Itm) : Prop := LB8 w x.1.sp x.2 ∧ x.2.length = x.1.m ∧ x.1.a ≤ 9223372036854775807
end Go.Proofs.YthbdpceobnkflaaDoor

namespace Go.Proofs.YthbdpceobnkflaaDoor
open Go Go.RowKit
set_option linter.unusedVariables false
set_option maxHeartbeats 1000000
set_option maxRecDepth 20000

/-- Where the laying has come to: the place, what lies at each address (0 nothing, 1 code, 2 data), the labels. -/
structure Sh where
  p : Nat
  U : List UInt8
  N : List (ByteArray × Nat)
def sh0 : Sh := ⟨0, List.replicate 65536 0, []⟩
def lookN : List (ByteArray × Nat) → ByteArray → Option Nat
  | [], _ => none
  | x :: r, s => if s = x.1 then some x.2 else lookN r s
def szN (r : Ri) : Nat := (sizeI r).toNat
def useI (r : Ri) : UInt8 := if r.k = 2 then 1 else 2
/-- So many addresses taken up. -/
def clE (s : Sh) (n : Nat) : Int := if 65536 < s.p + n then 143 else if ((s.U.drop s.p).take n).any (fun u => decide (u ≠ 0)) then 144 else 0
def clS (s : Sh) (n : Nat) (u : UInt8) : Sh := ⟨s.p + n, splice s.U s.p (List.replicate n u), s.N⟩
/-- The place called so. -/
def nmE (s : Sh) (n : ByteArray) : Int := if 65535 < s.p then 143 else if (lookN s.N n).isSome then 140 else 0
def nmS (s : Sh) (n : ByteArray) : Sh := ⟨s.p, s.U, (n, s.p) :: s.N⟩
/-- One item: why it can't be laid; what stands behind it. -/
def stE (s : Sh) (r : Ri) : Int := if r.k = 1 then nmE s r.n else if r.k = 4 then 0 else clE s (szN r)
def stS (s : Sh) (r : Ri) : Sh := if r.k = 1 then nmS s r.n else if r.k = 4 then ⟨r.a.toNat, s.U, s.N⟩ else clS s (szN r) (useI r)
def layE : Sh → List Ri → Nat → Option (Int × Nat)
  | _, [], _ => none
  | s, r :: l, i => if stE s r = 0 then layE (stS s r) l (i + 1) else some (stE s r, i)
def layS : Sh → List Ri → Sh
  | s, [] => s
  | s, r :: l => layS (stS s r) l
def plcs : Sh → List Ri → List Nat
  | _, [] => []
  | s, r :: l => s.p :: plcs (stS s r) l
structure Sh.Ok (s : Sh) : Prop where
  p : s.p ≤ 65536
  u : s.U.length = 65536
  n : ∀ x ∈ s.N, x.2 ≤ 65535
theorem sh0_ok : sh0.Ok := ⟨Nat.zero_le _, List.length_replicate, fun x hx => by cases hx⟩
theorem clE_cases (s : Sh) (n : Nat) : clE s n = 143 ∨ clE s n = 144 ∨ (clE s n = 0 ∧ s.p + n ≤ 65536 ∧ ((s.U.drop s.p).take n).any (fun u => decide (u ≠ 0)) = false) := by
  unfold clE
  split
  · exact .inl rfl
  · rename_i h
    rcases hb : ((s.U.drop s.p).take n).any (fun u => decide (u ≠ 0)) with _ | _
    · exact .inr (.inr ⟨by simp, by omega, rfl⟩)
    · exact .inr (.inl (by simp))
theorem clE_zero {s : Sh} {n : Nat} (h : clE s n = 0) : s.p + n ≤ 65536 ∧ ((s.U.drop s.p).take n).any (fun u => decide (u ≠ 0)) = false := by
  rcases clE_cases s n with e | e | ⟨_, e⟩
  · rw [e] at h; omega
  · rw [e] at h; omega
  · exact e
theorem nmE_zero {s : Sh} {n : ByteArray} (h : nmE s n = 0) : s.p ≤ 65535 ∧ lookN s.N n = none := by
  unfold nmE at h
  split at h
  · omega
  · rename_i h1
    split at h
    · omega
    · rename_i h2
      refine ⟨by omega, ?_⟩
      rcases e : lookN s.N n with _ | _
      · rfl
      · rw [e] at h2; simp at h2
theorem Sh.Ok.cl {s : Sh} (h : s.Ok) {n : Nat} (u : UInt8) (he : clE s n = 0) : (clS s n u).Ok := by
  have hz := (clE_zero he).1
  refine ⟨hz, ?_, h.n⟩
  show (splice s.U s.p (List.replicate n u)).length = 65536
  rw [length_splice _ _ _ (by rw [List.length_replicate, h.u]; exact hz), h.u]
theorem Sh.Ok.nm {s : Sh} (h : s.Ok) {n : ByteArray} (he : nmE s n = 0) : (nmS s n).Ok := by
  refine ⟨h.p, h.u, fun x hx => ?_⟩
  rcases List.mem_cons.1 hx with rfl | hx
  · exact (nmE_zero he).1
  · exact h.n x hx
theorem may_at {r : Ri} (h : mayI r = true) (hk : r.k = 4) : 0 ≤ r.a ∧ r.a ≤ 65535 := by
  rw [may4 hk] at h
  simp at h
  exact h.1
theorem Sh.Ok.st {s : Sh} (h : s.Ok) {r : Ri} (hm : mayI r = true) (he : stE s r = 0) : (stS s r).Ok := by
  unfold stE at he
  unfold stS
  split
  · rename_i hk
    rw [if_pos hk] at he
    exact h.nm he
  · rename_i hk
    rw [if_neg hk] at he
    split
    · rename_i hk4
      have := may_at hm hk4
      exact ⟨by show r.a.toNat ≤ 65536; omega, h.u, h.n⟩
    · rename_i hk4
      rw [if_neg hk4] at he
      exact h.cl _ he
theorem look_le {N : List (ByteArray × Nat)} (h : ∀ x ∈ N, x.2 ≤ 65535) {s : ByteArray} {t : Nat} (e : lookN N s = some t) : t ≤ 65535 := by
  induction N with
  | nil => simp [lookN] at e
  | cons x r ih =>
    unfold lookN at e
    split at e
    · simp at e; subst e; exact h x (by simp)
    · exact ih (fun y hy => h y (by simp [hy])) e
/-- Which items ask for a label, and what is wrong with what they ask for. -/
def asksI (r : Ri) : Bool := decide (r.k = 5) || (decide (r.k = 2) && decide (r.p ≠ 0))
def fmS (s : ByteArray) : Nat := match opOf s with | some n => fm n | none => 0
def flE (N : List (ByteArray × Nat)) (p : Nat) (r : Ri) : Int := if asksI r then (match lookN N r.l with | none => 141 | some t => if r.k = 2 ∧ fmS r.n = 5 ∧ t / 256 ≠ (p + 1) / 256 then 142 else 0) else 0
def opndI (r : Ri) (t : Nat) : Nat := if r.p = 2 then t / 256 else if r.p = 3 ∨ fmS r.n = 5 then t % 256 else t
def encL (s : ByteArray) (A : Int) : List UInt8 := match opOf s with | some n => (encB n A).map fun z => UInt8.ofNat z.toNat | none => []
def tgtN (N : List (ByteArray × Nat)) (r : Ri) : Nat := if asksI r then (lookN N r.l).getD 0 else 0
/-- The bytes of an item. -/
def flB (N : List (ByteArray × Nat)) (x : Itm) : List UInt8 := if x.1.k = 3 then x.2 else if x.1.k = 5 then [UInt8.ofNat (tgtN N x.1 / 256), UInt8.ofNat (tgtN N x.1)] else if x.1.k = 2 then encL x.1.n (if x.1.p = 0 then x.1.a else (opndI x.1 (tgtN N x.1) : Nat)) else []
def filE (N : List (ByteArray × Nat)) : List (Itm × Nat) → Nat → Option (Int × Nat)
  | [], _ => none
  | x :: l, i => if flE N x.2 x.1.1 = 0 then filE N l (i + 1) else some (flE N x.2 x.1.1, i)
def filM (N : List (ByteArray × Nat)) : List UInt8 → List (Itm × Nat) → List UInt8
  | M, [] => M
  | M, x :: l => filM N (splice M x.2 (flB N x.1)) l
end Go.Proofs.YthbdpceobnkflaaDoor

namespace Go.Proofs.YthbdpceobnkflaaDoor
open Go Go.RowKit
set_option linter.unusedVariables false
set_option maxHeartbeats 1000000
set_option maxRecDepth 20000

def cU (b : UInt8) : List Value := [byV b]
theorem kU : KdL (α := UInt8) 33 5 1 1 cU := by
  obtain ⟨i, hi, hz0, hz1, hz2⟩ := info_parts infoB
  exact ⟨Tryd.underlying33, ⟨i, _, hi, hz0, hz1, hz2, rfl⟩, fun _ => rfl, fun x v hv => by simp [cU, byV] at hv; subst hv; rfl, by decide, by decide⟩
def rU (l : List UInt8) : Array Value := (l.map byV).toArray
theorem made_u8 (n : Nat) : madeCells #[.int .u8 0] (n * 1) = rU (List.replicate n 0) := by
  apply Array.ext_getElem?
  intro i
  unfold madeCells rU
  by_cases h : i < n
  · simp [h, byV, Nat.mod_one]
  · simp [h]
theorem rU_set (l : List UInt8) (k : Nat) (b : UInt8) : (rU l).setIfInBounds k (byV b) = rU (l.set k b) := by unfold rU; simp [List.map_set]
end Go.Proofs.YthbdpceobnkflaaDoor
