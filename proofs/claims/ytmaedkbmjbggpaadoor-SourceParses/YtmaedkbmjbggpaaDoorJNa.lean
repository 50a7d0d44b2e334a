/- An item of a source: which may be, by plain mathematics and by the document. -/
import Derived.Test.YtmaedkbmjbggpaaDoorJIa
import Derived.Test.YtmaedkbmjbggpaaDoorJORefD
import Derived.Test.YtmaedkbmjbggpaaDoorJOSum
namespace Go.Proofs.YtmaedkbmjbggpaaDoor
open Go Go.RowKit
set_option linter.unusedVariables false
set_option maxHeartbeats 3000000
set_option maxRecDepth 20000

/-- An item as it lies in memory: its bytes lie elsewhere. -/
structure Ri where
  k : Int
  n : ByteArray
  a : Int
  l : ByteArray
  p : Int
  sp : Option Addr
  m : Nat
  cap : Nat
def i6 (r : Ri) : Array Value := #[.int .u8 r.k, .string r.n, .int .i64 r.a, .string r.l, .int .u8 r.p, .slice r.sp r.m r.cap]
def lowI (n : ByteArray) (f : Nat) : Int := if f = 2 then (if n = ⟨#[76, 68, 78]⟩ then 1 else 0) else if f = 3 then 1 else 0
def highI (f : Nat) : Int := if f = 2 then 15 else if f = 3 then 7 else if f = 4 ∨ f = 5 then 255 else if f = 6 then 65535 else 0
/-- May an instruction of a source be so? -/
def codeF (f : Nat) (r : Ri) : Bool := decide (r.m = 0) && (if r.p = 0 then decide (r.l.size = 0) && (decide (lowI r.n f ≤ r.a) && decide (r.a ≤ highI f)) else isNm r.l && (decide (r.a = 0) && (if f = 4 then decide (r.p = 2 ∨ r.p = 3) else if f = 5 ∨ f = 6 then decide (r.p = 1) else false)))
def codeI (r : Ri) : Bool := match opOf r.n with | none => false | some n => codeF (fm n) r
/-- May an item be? -/
def mayI (r : Ri) : Bool := if r.k = 2 then codeI r else if r.p ≠ 0 then false
  else if r.k = 1 then isNm r.n && (decide (r.a = 0) && (decide (r.l.size = 0) && decide (r.m = 0)))
  else if r.k = 3 then decide (r.n.size = 0) && (decide (r.a = 0) && (decide (r.l.size = 0) && (decide (1 ≤ r.m) && decide (r.m ≤ 256))))
  else if r.k = 4 then decide (r.n.size = 0) && (decide (r.l.size = 0) && (decide (r.m = 0) && (decide (0 ≤ r.a) && decide (r.a ≤ 65535))))
  else if r.k = 5 then isNm r.l && (decide (r.n.size = 0) && (decide (r.a = 0) && decide (r.m = 0)))
  else false
theorem rtI : Rt Tryd.prog 75 4 := ⟨⟨_, Tryd.underlying75, rfl⟩, by kernel_rfl⟩
theorem rt6 : Rt Tryd.prog 39 6 := ⟨⟨_, Tryd.underlying39, rfl⟩, by kernel_rfl⟩

theorem rmost_any (n : ByteArray) (f : Nat) (w : World) (h1 : 1 ≤ f) (h6 : f ≤ 6) : Calls Tryd.prog 67 #[.string n, .int .u8 f] w fun e w' => e = .returned (.tuple #[.int .i64 (lowI n f), .int .i64 (highI f), .bool true]) ∧ w' = w := by
  have hq := str_is n [76, 68, 78]
  unfold lowI
  by_cases hn : n = ⟨#[76, 68, 78]⟩
  · rw [if_pos hn]
    rw [decide_eq_true (show n = ⟨[76, 68, 78].toArray⟩ from hn)] at hq
    clear hn
    rcases (show f = 1 ∨ f = 2 ∨ f = 3 ∨ f = 4 ∨ f = 5 ∨ f = 6 by omega) with rfl | rfl | rfl | rfl | rfl | rfl
    all_goals
      go_enter Tryd.func67, Tryd.ntmps67
      go_wp2
      (try simp only [Exit.inBlock, Exit.then])
      refine bodyPost_ret (by simp [results, Tryd.results67, go_sem]; try rfl) rfl ?_
      exact ⟨rfl, rfl⟩
  · rw [if_neg hn]
    rw [decide_eq_false (show ¬ n = ⟨[76, 68, 78].toArray⟩ from hn)] at hq
    clear hn
    rcases (show f = 1 ∨ f = 2 ∨ f = 3 ∨ f = 4 ∨ f = 5 ∨ f = 6 by omega) with rfl | rfl | rfl | rfl | rfl | rfl
    all_goals
      go_enter Tryd.func67, Tryd.ntmps67
      go_wp2
      (try simp only [Exit.inBlock, Exit.then])
      refine bodyPost_ret (by simp [results, Tryd.results67, go_sem]; try rfl) rfl ?_
      exact ⟨rfl, rfl⟩

theorem rfind_yes (s : ByteArray) (n : Nat) (ho : opOf s = some n) (w : World) : Calls Tryd.prog 66 #[.string s] w fun e w' => e = .returned (.tuple #[.agg #[.string (nm n), .int .u8 (fm n : Nat), .int .i64 (lay (fm n * 3) : Nat), .int .i64 (cyc n : Nat)], .bool true]) ∧ Below w.heap.size w w' :=
  rfind_some s n ho (nm n) (fm n) (lay (fm n * 3)) (cyc n) (fun v => rinfo_any n v (opOf_lt ho).1) w
/-- What Find says, with the form alone named. -/
theorem rfind_form (s : ByteArray) (n : Nat) (ho : opOf s = some n) : ∃ X L c : _, (∀ w : World, Calls Tryd.prog 66 #[.string s] w fun e w' => e = .returned (.tuple #[.agg #[.string X, .int .u8 (fm n : Nat), .int .i64 (L : Int), .int .i64 (c : Int)], .bool true]) ∧ Below w.heap.size w w') ∧ L = (lay (fm n * 3) : Nat) :=
  ⟨nm n, (lay (fm n * 3) : Nat), (cyc n : Nat), fun w => rfind_yes s n ho w, rfl⟩

theorem code_find (w : World) (r : Ri) (f : Nat) (hf1 : 1 ≤ f) (hf6 : f ≤ 6) (X : ByteArray) (L c : Int) (hf : ∀ w : World, Calls Tryd.prog 66 #[.string r.n] w fun e w' => e = .returned (.tuple #[.agg #[.string X, .int .u8 (f : Int), .int .i64 L, .int .i64 c], .bool true]) ∧ Below w.heap.size w w') :
    Calls Tryd.prog 38 #[.agg (i6 r)] w fun e w' => e = .returned (.bool (codeF f r)) ∧ Below w.heap.size w w' := by
  have hB : Hid (Fm w [(w.heap.size, i6 r, 39)] (w.alloc (.cells (i6 r) 39))) := Fm.one w _ _
  obtain ⟨R, hR⟩ : ∃ R, Hid (codeF f r = R) := ⟨_, (rfl : codeF f r = codeF f r)⟩
  rw [hR.out]
  by_cases hm : r.m = 0
  · have m0 : ((r.m : Int) != 0) = false := by rw [bne_eq_false_iff_eq]; omega
    by_cases hp : r.p = 0
    · have p0 : (r.p == 0) = true := by rw [beq_iff_eq]; exact hp
      have hM := rmost_any r.n f
      have fin : Hid (R = (decide (r.l.size = 0) && (decide (lowI r.n f ≤ r.a) && decide (r.a ≤ highI f)))) := by
        show _ = _
        rw [← hR.out]
        unfold codeF
        rw [decide_eq_true hm, if_pos hp, Bool.true_and]
      have hL := emp_is r.l
      generalize lowI r.n f = lo at hM fin
      generalize highI f = hi at hM fin
      clear hm hp hR
      obtain ⟨b1, q1'⟩ : ∃ b, decide (r.l.size = 0) = b := ⟨_, rfl⟩
      obtain ⟨b2, q2'⟩ : ∃ b, decide (lo ≤ r.a) = b := ⟨_, rfl⟩
      obtain ⟨b3, q3'⟩ : ∃ b, decide (r.a ≤ hi) = b := ⟨_, rfl⟩
      rw [q1'] at hL fin
      rw [q2', q3'] at fin
      clear q1'
      cases b1 <;> cases b2 <;> cases b3
      all_goals
        go_enter Tryd.func38, Tryd.ntmps38
        go_wp2_with (first | ((with_reducible refine gen_world (w.alloc (.cells (i6 r) 39)) (Fm w [(w.heap.size, i6 r, 39)]) hB.out ?_); intro y K1; have d0 := (K1.out.bx 0 _ _ _ rfl).c 0 (.int .u8 r.k) rfl; have d1 := (K1.out.bx 0 _ _ _ rfl).c 1 (.string r.n) rfl; have d2 := (K1.out.bx 0 _ _ _ rfl).c 2 (.int .i64 r.a) rfl; have d3 := (K1.out.bx 0 _ _ _ rfl).c 3 (.string r.l) rfl; have d4 := (K1.out.bx 0 _ _ _ rfl).c 4 (.int .u8 r.p) rfl; have d5 := (K1.out.bx 0 _ _ _ rfl).c 5 (.slice r.sp r.m r.cap) rfl) | (go_at_call 66; refine (hf y).mono ?_; rintro e y2 ⟨rfl, h2⟩; have K3 : Hid (Fm w [(w.heap.size, i6 r, 39), (y2.heap.size, #[.string X, .int .u8 (f : Int), .int .i64 L, .int .i64 c], 75)] (y2.alloc (.cells #[.string X, .int .u8 (f : Int), .int .i64 L, .int .i64 c] 75))) := (K1.out.below h2).new _ _; clear d0 d1 d2 d3 d4 d5 h2; have g0 := (K3.out.bx 0 _ _ _ rfl).c 0 (.int .u8 r.k) rfl; have g1 := (K3.out.bx 0 _ _ _ rfl).c 1 (.string r.n) rfl; have g2 := (K3.out.bx 0 _ _ _ rfl).c 2 (.int .i64 r.a) rfl; have g3 := (K3.out.bx 0 _ _ _ rfl).c 3 (.string r.l) rfl; have g4 := (K3.out.bx 0 _ _ _ rfl).c 4 (.int .u8 r.p) rfl; have g5 := (K3.out.bx 0 _ _ _ rfl).c 5 (.slice r.sp r.m r.cap) rfl; have q1 := (K3.out.bx 1 _ _ _ rfl).c 1 (.int .u8 (f : Int)) rfl; have q2 := (K3.out.bx 1 _ _ _ rfl).c 2 (.int .i64 L) rfl) | (go_at_call 67; refine (hM _ hf1 hf6).mono ?_; rintro e y4 ⟨rfl, rfl⟩))
        go_ret
        exact ⟨bool_ret (by rw [fin.out]; rfl), K3.out.low⟩
    · have p0 : (r.p == 0) = false := by rw [beq_eq_false_iff_ne]; exact hp
      have hN := fun v => risname_any r.l v
      have fin : Hid (R = (isNm r.l && (decide (r.a = 0) && (if f = 4 then decide (r.p = 2 ∨ r.p = 3) else if f = 5 ∨ f = 6 then decide (r.p = 1) else false)))) := by
        show _ = _
        rw [← hR.out]
        unfold codeF
        rw [decide_eq_true hm, if_neg hp, Bool.true_and]
      generalize isNm r.l = b1 at hN fin
      by_cases ha : r.a = 0
      · have a0 : (r.a != 0) = false := by rw [bne_eq_false_iff_eq]; exact ha
        rw [decide_eq_true ha, Bool.true_and] at fin
        clear hR hm hp ha
        obtain ⟨v1, q1'⟩ : ∃ b, (r.p == 1) = b := ⟨_, rfl⟩
        obtain ⟨v2, q2'⟩ : ∃ b, (r.p == 2) = b := ⟨_, rfl⟩
        obtain ⟨v3, q3'⟩ : ∃ b, (r.p == 3) = b := ⟨_, rfl⟩
        have fin2 : Hid (R = (b1 && (if f = 4 then (v2 || v3) else if f = 5 ∨ f = 6 then v1 else false))) := by
          show _ = _
          rw [fin.out, ← q1', ← q2', ← q3']
          congr 1
          split
          · rw [Bool.eq_iff_iff]; simp
          · split
            · rw [Bool.eq_iff_iff]; simp
            · rfl
        clear fin
        cases b1
        · go_enter Tryd.func38, Tryd.ntmps38
          go_wp2_with (first | ((with_reducible refine gen_world (w.alloc (.cells (i6 r) 39)) (Fm w [(w.heap.size, i6 r, 39)]) hB.out ?_); intro y K1; have d0 := (K1.out.bx 0 _ _ _ rfl).c 0 (.int .u8 r.k) rfl; have d1 := (K1.out.bx 0 _ _ _ rfl).c 1 (.string r.n) rfl; have d2 := (K1.out.bx 0 _ _ _ rfl).c 2 (.int .i64 r.a) rfl; have d3 := (K1.out.bx 0 _ _ _ rfl).c 3 (.string r.l) rfl; have d4 := (K1.out.bx 0 _ _ _ rfl).c 4 (.int .u8 r.p) rfl; have d5 := (K1.out.bx 0 _ _ _ rfl).c 5 (.slice r.sp r.m r.cap) rfl) | (go_at_call 66; refine (hf y).mono ?_; rintro e y2 ⟨rfl, h2⟩; have K3 : Hid (Fm w [(w.heap.size, i6 r, 39), (y2.heap.size, #[.string X, .int .u8 (f : Int), .int .i64 L, .int .i64 c], 75)] (y2.alloc (.cells #[.string X, .int .u8 (f : Int), .int .i64 L, .int .i64 c] 75))) := (K1.out.below h2).new _ _; clear d0 d1 d2 d3 d4 d5 h2; have g0 := (K3.out.bx 0 _ _ _ rfl).c 0 (.int .u8 r.k) rfl; have g1 := (K3.out.bx 0 _ _ _ rfl).c 1 (.string r.n) rfl; have g2 := (K3.out.bx 0 _ _ _ rfl).c 2 (.int .i64 r.a) rfl; have g3 := (K3.out.bx 0 _ _ _ rfl).c 3 (.string r.l) rfl; have g4 := (K3.out.bx 0 _ _ _ rfl).c 4 (.int .u8 r.p) rfl; have g5 := (K3.out.bx 0 _ _ _ rfl).c 5 (.slice r.sp r.m r.cap) rfl; have q1 := (K3.out.bx 1 _ _ _ rfl).c 1 (.int .u8 (f : Int)) rfl; have q2 := (K3.out.bx 1 _ _ _ rfl).c 2 (.int .i64 L) rfl) | (go_at_call 39; refine (hN _).mono ?_; rintro e y4 ⟨rfl, rfl⟩))
          go_ret
          exact ⟨bool_ret (by rw [fin2.out]; rfl), K3.out.low⟩
        · rcases (show f = 4 ∨ f = 5 ∨ f = 6 ∨ (¬ f = 4 ∧ ¬ f = 5 ∧ ¬ f = 6) by omega) with hc | hc | hc | hc
          · have f4 : ((f : Int) == 4) = true := by rw [beq_iff_eq]; omega
            have fin3 : Hid (R = (v2 || v3)) := by show _ = _; rw [fin2.out]; rw [if_pos hc, Bool.true_and]
            clear fin2 hc
            clear q1'
            cases v2 <;> cases v3
            all_goals
              go_enter Tryd.func38, Tryd.ntmps38
              go_wp2_with (first | ((with_reducible refine gen_world (w.alloc (.cells (i6 r) 39)) (Fm w [(w.heap.size, i6 r, 39)]) hB.out ?_); intro y K1; have d0 := (K1.out.bx 0 _ _ _ rfl).c 0 (.int .u8 r.k) rfl; have d1 := (K1.out.bx 0 _ _ _ rfl).c 1 (.string r.n) rfl; have d2 := (K1.out.bx 0 _ _ _ rfl).c 2 (.int .i64 r.a) rfl; have d3 := (K1.out.bx 0 _ _ _ rfl).c 3 (.string r.l) rfl; have d4 := (K1.out.bx 0 _ _ _ rfl).c 4 (.int .u8 r.p) rfl; have d5 := (K1.out.bx 0 _ _ _ rfl).c 5 (.slice r.sp r.m r.cap) rfl) | (go_at_call 66; refine (hf y).mono ?_; rintro e y2 ⟨rfl, h2⟩; have K3 : Hid (Fm w [(w.heap.size, i6 r, 39), (y2.heap.size, #[.string X, .int .u8 (f : Int), .int .i64 L, .int .i64 c], 75)] (y2.alloc (.cells #[.string X, .int .u8 (f : Int), .int .i64 L, .int .i64 c] 75))) := (K1.out.below h2).new _ _; clear d0 d1 d2 d3 d4 d5 h2; have g0 := (K3.out.bx 0 _ _ _ rfl).c 0 (.int .u8 r.k) rfl; have g1 := (K3.out.bx 0 _ _ _ rfl).c 1 (.string r.n) rfl; have g2 := (K3.out.bx 0 _ _ _ rfl).c 2 (.int .i64 r.a) rfl; have g3 := (K3.out.bx 0 _ _ _ rfl).c 3 (.string r.l) rfl; have g4 := (K3.out.bx 0 _ _ _ rfl).c 4 (.int .u8 r.p) rfl; have g5 := (K3.out.bx 0 _ _ _ rfl).c 5 (.slice r.sp r.m r.cap) rfl; have q1 := (K3.out.bx 1 _ _ _ rfl).c 1 (.int .u8 (f : Int)) rfl; have q2 := (K3.out.bx 1 _ _ _ rfl).c 2 (.int .i64 L) rfl) | (go_at_call 39; refine (hN _).mono ?_; rintro e y4 ⟨rfl, rfl⟩))
              go_ret
              exact ⟨bool_ret (by rw [fin3.out]; try rfl), K3.out.low⟩
          · have f4 : ((f : Int) == 4) = false := by rw [beq_eq_false_iff_ne]; omega
            have f5 : ((f : Int) == 5) = true := by rw [beq_iff_eq]; omega
            have fin3 : Hid (R = v1) := by show _ = _; rw [fin2.out]; rw [if_neg (by omega), if_pos (.inl hc), Bool.true_and]
            clear fin2 hc
            clear q2' q3'
            cases v1
            all_goals
              go_enter Tryd.func38, Tryd.ntmps38
              go_wp2_with (first | ((with_reducible refine gen_world (w.alloc (.cells (i6 r) 39)) (Fm w [(w.heap.size, i6 r, 39)]) hB.out ?_); intro y K1; have d0 := (K1.out.bx 0 _ _ _ rfl).c 0 (.int .u8 r.k) rfl; have d1 := (K1.out.bx 0 _ _ _ rfl).c 1 (.string r.n) rfl; have d2 := (K1.out.bx 0 _ _ _ rfl).c 2 (.int .i64 r.a) rfl; have d3 := (K1.out.bx 0 _ _ _ rfl).c 3 (.string r.l) rfl; have d4 := (K1.out.bx 0 _ _ _ rfl).c 4 (.int .u8 r.p) rfl; have d5 := (K1.out.bx 0 _ _ _ rfl).c 5 (.slice r.sp r.m r.cap) rfl) | (go_at_call 66; refine (hf y).mono ?_; rintro e y2 ⟨rfl, h2⟩; have K3 : Hid (Fm w [(w.heap.size, i6 r, 39), (y2.heap.size, #[.string X, .int .u8 (f : Int), .int .i64 L, .int .i64 c], 75)] (y2.alloc (.cells #[.string X, .int .u8 (f : Int), .int .i64 L, .int .i64 c] 75))) := (K1.out.below h2).new _ _; clear d0 d1 d2 d3 d4 d5 h2; have g0 := (K3.out.bx 0 _ _ _ rfl).c 0 (.int .u8 r.k) rfl; have g1 := (K3.out.bx 0 _ _ _ rfl).c 1 (.string r.n) rfl; have g2 := (K3.out.bx 0 _ _ _ rfl).c 2 (.int .i64 r.a) rfl; have g3 := (K3.out.bx 0 _ _ _ rfl).c 3 (.string r.l) rfl; have g4 := (K3.out.bx 0 _ _ _ rfl).c 4 (.int .u8 r.p) rfl; have g5 := (K3.out.bx 0 _ _ _ rfl).c 5 (.slice r.sp r.m r.cap) rfl; have q1 := (K3.out.bx 1 _ _ _ rfl).c 1 (.int .u8 (f : Int)) rfl; have q2 := (K3.out.bx 1 _ _ _ rfl).c 2 (.int .i64 L) rfl) | (go_at_call 39; refine (hN _).mono ?_; rintro e y4 ⟨rfl, rfl⟩))
              go_ret
              exact ⟨bool_ret (by rw [fin3.out]; try rfl), K3.out.low⟩
          · have f4 : ((f : Int) == 4) = false := by rw [beq_eq_false_iff_ne]; omega
            have f5 : ((f : Int) == 5) = false := by rw [beq_eq_false_iff_ne]; omega
            have f6 : ((f : Int) == 6) = true := by rw [beq_iff_eq]; omega
            have fin3 : Hid (R = v1) := by show _ = _; rw [fin2.out]; rw [if_neg (by omega), if_pos (.inr hc), Bool.true_and]
            clear fin2 hc
            clear q2' q3'
            cases v1
            all_goals
              go_enter Tryd.func38, Tryd.ntmps38
              go_wp2_with (first | ((with_reducible refine gen_world (w.alloc (.cells (i6 r) 39)) (Fm w [(w.heap.size, i6 r, 39)]) hB.out ?_); intro y K1; have d0 := (K1.out.bx 0 _ _ _ rfl).c 0 (.int .u8 r.k) rfl; have d1 := (K1.out.bx 0 _ _ _ rfl).c 1 (.string r.n) rfl; have d2 := (K1.out.bx 0 _ _ _ rfl).c 2 (.int .i64 r.a) rfl; have d3 := (K1.out.bx 0 _ _ _ rfl).c 3 (.string r.l) rfl; have d4 := (K1.out.bx 0 _ _ _ rfl).c 4 (.int .u8 r.p) rfl; have d5 := (K1.out.bx 0 _ _ _ rfl).c 5 (.slice r.sp r.m r.cap) rfl) | (go_at_call 66; refine (hf y).mono ?_; rintro e y2 ⟨rfl, h2⟩; have K3 : Hid (Fm w [(w.heap.size, i6 r, 39), (y2.heap.size, #[.string X, .int .u8 (f : Int), .int .i64 L, .int .i64 c], 75)] (y2.alloc (.cells #[.string X, .int .u8 (f : Int), .int .i64 L, .int .i64 c] 75))) := (K1.out.below h2).new _ _; clear d0 d1 d2 d3 d4 d5 h2; have g0 := (K3.out.bx 0 _ _ _ rfl).c 0 (.int .u8 r.k) rfl; have g1 := (K3.out.bx 0 _ _ _ rfl).c 1 (.string r.n) rfl; have g2 := (K3.out.bx 0 _ _ _ rfl).c 2 (.int .i64 r.a) rfl; have g3 := (K3.out.bx 0 _ _ _ rfl).c 3 (.string r.l) rfl; have g4 := (K3.out.bx 0 _ _ _ rfl).c 4 (.int .u8 r.p) rfl; have g5 := (K3.out.bx 0 _ _ _ rfl).c 5 (.slice r.sp r.m r.cap) rfl; have q1 := (K3.out.bx 1 _ _ _ rfl).c 1 (.int .u8 (f : Int)) rfl; have q2 := (K3.out.bx 1 _ _ _ rfl).c 2 (.int .i64 L) rfl) | (go_at_call 39; refine (hN _).mono ?_; rintro e y4 ⟨rfl, rfl⟩))
              go_ret
              exact ⟨bool_ret (by rw [fin3.out]; try rfl), K3.out.low⟩
          · have f4 : ((f : Int) == 4) = false := by rw [beq_eq_false_iff_ne]; omega
            have f5 : ((f : Int) == 5) = false := by rw [beq_eq_false_iff_ne]; omega
            have f6 : ((f : Int) == 6) = false := by rw [beq_eq_false_iff_ne]; omega
            have fin3 : Hid (R = false) := by show _ = _; rw [fin2.out]; rw [if_neg hc.1, if_neg (by omega), Bool.true_and]
            clear fin2 hc
            clear q1' q2' q3'
            all_goals
              go_enter Tryd.func38, Tryd.ntmps38
              go_wp2_with (first | ((with_reducible refine gen_world (w.alloc (.cells (i6 r) 39)) (Fm w [(w.heap.size, i6 r, 39)]) hB.out ?_); intro y K1; have d0 := (K1.out.bx 0 _ _ _ rfl).c 0 (.int .u8 r.k) rfl; have d1 := (K1.out.bx 0 _ _ _ rfl).c 1 (.string r.n) rfl; have d2 := (K1.out.bx 0 _ _ _ rfl).c 2 (.int .i64 r.a) rfl; have d3 := (K1.out.bx 0 _ _ _ rfl).c 3 (.string r.l) rfl; have d4 := (K1.out.bx 0 _ _ _ rfl).c 4 (.int .u8 r.p) rfl; have d5 := (K1.out.bx 0 _ _ _ rfl).c 5 (.slice r.sp r.m r.cap) rfl) | (go_at_call 66; refine (hf y).mono ?_; rintro e y2 ⟨rfl, h2⟩; have K3 : Hid (Fm w [(w.heap.size, i6 r, 39), (y2.heap.size, #[.string X, .int .u8 (f : Int), .int .i64 L, .int .i64 c], 75)] (y2.alloc (.cells #[.string X, .int .u8 (f : Int), .int .i64 L, .int .i64 c] 75))) := (K1.out.below h2).new _ _; clear d0 d1 d2 d3 d4 d5 h2; have g0 := (K3.out.bx 0 _ _ _ rfl).c 0 (.int .u8 r.k) rfl; have g1 := (K3.out.bx 0 _ _ _ rfl).c 1 (.string r.n) rfl; have g2 := (K3.out.bx 0 _ _ _ rfl).c 2 (.int .i64 r.a) rfl; have g3 := (K3.out.bx 0 _ _ _ rfl).c 3 (.string r.l) rfl; have g4 := (K3.out.bx 0 _ _ _ rfl).c 4 (.int .u8 r.p) rfl; have g5 := (K3.out.bx 0 _ _ _ rfl).c 5 (.slice r.sp r.m r.cap) rfl; have q1 := (K3.out.bx 1 _ _ _ rfl).c 1 (.int .u8 (f : Int)) rfl; have q2 := (K3.out.bx 1 _ _ _ rfl).c 2 (.int .i64 L) rfl) | (go_at_call 39; refine (hN _).mono ?_; rintro e y4 ⟨rfl, rfl⟩))
              go_ret
              exact ⟨bool_ret (by rw [fin3.out]; try rfl), K3.out.low⟩
      · have a0 : (r.a != 0) = true := by rw [bne_iff_ne]; exact ha
        rw [decide_eq_false ha, Bool.false_and, Bool.and_false] at fin
        clear hR hm hp ha
        cases b1
        all_goals
          go_enter Tryd.func38, Tryd.ntmps38
          go_wp2_with (first | ((with_reducible refine gen_world (w.alloc (.cells (i6 r) 39)) (Fm w [(w.heap.size, i6 r, 39)]) hB.out ?_); intro y K1; have d0 := (K1.out.bx 0 _ _ _ rfl).c 0 (.int .u8 r.k) rfl; have d1 := (K1.out.bx 0 _ _ _ rfl).c 1 (.string r.n) rfl; have d2 := (K1.out.bx 0 _ _ _ rfl).c 2 (.int .i64 r.a) rfl; have d3 := (K1.out.bx 0 _ _ _ rfl).c 3 (.string r.l) rfl; have d4 := (K1.out.bx 0 _ _ _ rfl).c 4 (.int .u8 r.p) rfl; have d5 := (K1.out.bx 0 _ _ _ rfl).c 5 (.slice r.sp r.m r.cap) rfl) | (go_at_call 66; refine (hf y).mono ?_; rintro e y2 ⟨rfl, h2⟩; have K3 : Hid (Fm w [(w.heap.size, i6 r, 39), (y2.heap.size, #[.string X, .int .u8 (f : Int), .int .i64 L, .int .i64 c], 75)] (y2.alloc (.cells #[.string X, .int .u8 (f : Int), .int .i64 L, .int .i64 c] 75))) := (K1.out.below h2).new _ _; clear d0 d1 d2 d3 d4 d5 h2; have g0 := (K3.out.bx 0 _ _ _ rfl).c 0 (.int .u8 r.k) rfl; have g1 := (K3.out.bx 0 _ _ _ rfl).c 1 (.string r.n) rfl; have g2 := (K3.out.bx 0 _ _ _ rfl).c 2 (.int .i64 r.a) rfl; have g3 := (K3.out.bx 0 _ _ _ rfl).c 3 (.string r.l) rfl; have g4 := (K3.out.bx 0 _ _ _ rfl).c 4 (.int .u8 r.p) rfl; have g5 := (K3.out.bx 0 _ _ _ rfl).c 5 (.slice r.sp r.m r.cap) rfl; have q1 := (K3.out.bx 1 _ _ _ rfl).c 1 (.int .u8 (f : Int)) rfl; have q2 := (K3.out.bx 1 _ _ _ rfl).c 2 (.int .i64 L) rfl) | (go_at_call 39; refine (hN _).mono ?_; rintro e y4 ⟨rfl, rfl⟩))
          go_ret
          exact ⟨bool_ret (by rw [fin.out]), K3.out.low⟩
  · have m0 : ((r.m : Int) != 0) = true := by rw [bne_iff_ne]; omega
    have fin : Hid (R = false) := by
      show _ = _
      rw [← hR.out]
      unfold codeF
      rw [decide_eq_false hm, Bool.false_and]
    clear hm hR
    go_enter Tryd.func38, Tryd.ntmps38
    go_wp2_with (first | ((with_reducible refine gen_world (w.alloc (.cells (i6 r) 39)) (Fm w [(w.heap.size, i6 r, 39)]) hB.out ?_); intro y K1; have d0 := (K1.out.bx 0 _ _ _ rfl).c 0 (.int .u8 r.k) rfl; have d1 := (K1.out.bx 0 _ _ _ rfl).c 1 (.string r.n) rfl; have d2 := (K1.out.bx 0 _ _ _ rfl).c 2 (.int .i64 r.a) rfl; have d3 := (K1.out.bx 0 _ _ _ rfl).c 3 (.string r.l) rfl; have d4 := (K1.out.bx 0 _ _ _ rfl).c 4 (.int .u8 r.p) rfl; have d5 := (K1.out.bx 0 _ _ _ rfl).c 5 (.slice r.sp r.m r.cap) rfl) | (go_at_call 66; refine (hf y).mono ?_; rintro e y2 ⟨rfl, h2⟩; have K3 : Hid (Fm w [(w.heap.size, i6 r, 39), (y2.heap.size, #[.string X, .int .u8 (f : Int), .int .i64 L, .int .i64 c], 75)] (y2.alloc (.cells #[.string X, .int .u8 (f : Int), .int .i64 L, .int .i64 c] 75))) := (K1.out.below h2).new _ _; clear d0 d1 d2 d3 d4 d5 h2; have g0 := (K3.out.bx 0 _ _ _ rfl).c 0 (.int .u8 r.k) rfl; have g1 := (K3.out.bx 0 _ _ _ rfl).c 1 (.string r.n) rfl; have g2 := (K3.out.bx 0 _ _ _ rfl).c 2 (.int .i64 r.a) rfl; have g3 := (K3.out.bx 0 _ _ _ rfl).c 3 (.string r.l) rfl; have g4 := (K3.out.bx 0 _ _ _ rfl).c 4 (.int .u8 r.p) rfl; have g5 := (K3.out.bx 0 _ _ _ rfl).c 5 (.slice r.sp r.m r.cap) rfl; have q1 := (K3.out.bx 1 _ _ _ rfl).c 1 (.int .u8 (f : Int)) rfl; have q2 := (K3.out.bx 1 _ _ _ rfl).c 2 (.int .i64 L) rfl))
    go_ret
    exact ⟨bool_ret (by rw [fin.out]), K3.out.low⟩

theorem code_none (w : World) (r : Ri) (ho : Hid (opOf r.n = none)) : Calls Tryd.prog 38 #[.agg (i6 r)] w fun e w' => e = .returned (.bool false) ∧ Below w.heap.size w w' := by
  have hB : Hid (Fm w [(w.heap.size, i6 r, 39)] (w.alloc (.cells (i6 r) 39))) := Fm.one w _ _
  have hf : ∀ w : World, Calls Tryd.prog 66 #[.string r.n] w fun e w' => e = .returned (.tuple #[.agg #[.string ⟨#[]⟩, .int .u8 0, .int .i64 0, .int .i64 0], .bool false]) ∧ Below w.heap.size w w' := fun w => rfind_none r.n ho w
  go_enter Tryd.func38, Tryd.ntmps38
  go_wp2_with (first | ((with_reducible refine gen_world (w.alloc (.cells (i6 r) 39)) (Fm w [(w.heap.size, i6 r, 39)]) hB.out ?_); intro y K1; have d0 := (K1.out.bx 0 _ _ _ rfl).c 0 (.int .u8 r.k) rfl; have d1 := (K1.out.bx 0 _ _ _ rfl).c 1 (.string r.n) rfl; have d2 := (K1.out.bx 0 _ _ _ rfl).c 2 (.int .i64 r.a) rfl; have d3 := (K1.out.bx 0 _ _ _ rfl).c 3 (.string r.l) rfl; have d4 := (K1.out.bx 0 _ _ _ rfl).c 4 (.int .u8 r.p) rfl; have d5 := (K1.out.bx 0 _ _ _ rfl).c 5 (.slice r.sp r.m r.cap) rfl) | (go_at_call 66; refine (hf y).mono ?_; rintro e y2 ⟨rfl, h2⟩; have K3 : Hid (Below w.heap.size w (y2.alloc (.cells #[.string ⟨#[]⟩, .int .u8 0, .int .i64 0, .int .i64 0] 75))) := ((K1.out.below h2).new _ _).low; clear d0 d1 d2 d3 d4 d5 h2))
  go_ret
  exact ⟨rfl, K3.out⟩
theorem rcode_any (w : World) (r : Ri) : Calls Tryd.prog 38 #[.agg (i6 r)] w fun e w' => e = .returned (.bool (codeI r)) ∧ Below w.heap.size w w' := by
  unfold codeI
  rcases ho : opOf r.n with _ | n
  · exact code_none w r ho
  · have hn := (opOf_lt ho).1
    obtain ⟨X, L, c, hf, _⟩ := rfind_form r.n n ho
    exact code_find w r (fm n) (fm_le n hn).1 (fm_le n hn).2 X L c hf
end Go.Proofs.YtmaedkbmjbggpaaDoor
/- Which items may be, and how many bytes they have, by the document. -/
namespace Go.Proofs.YtmaedkbmjbggpaaDoor
open Go Go.RowKit
set_option linter.unusedVariables false
set_option maxHeartbeats 3000000
set_option maxRecDepth 20000

theorem may_code (w : World) (r : Ri) (hk : Hid (r.k = 2)) : Calls Tryd.prog 21 #[.agg (i6 r)] w fun e w' => e = .returned (.bool (mayI r)) ∧ Below w.heap.size w w' := by
  have hB : Hid (Fm w [(w.heap.size, i6 r, 39)] (w.alloc (.cells (i6 r) 39))) := Fm.one w _ _
  have e0 : mayI r = codeI r := by unfold mayI; rw [if_pos hk.out]
  rw [e0]
  have hC := fun v => rcode_any v r
  generalize codeI r = R at hC
  have k2 : (r.k == 2) = true := by rw [beq_iff_eq]; exact hk.out
  go_enter Tryd.func21, Tryd.ntmps21
  go_wp2_with (first | ((with_reducible refine gen_world (w.alloc (.cells (i6 r) 39)) (Fm w [(w.heap.size, i6 r, 39)]) hB.out ?_); intro y K1; have d0 := (K1.out.bx 0 _ _ _ rfl).c 0 (.int .u8 r.k) rfl; have d1 := (K1.out.bx 0 _ _ _ rfl).c 1 (.string r.n) rfl; have d2 := (K1.out.bx 0 _ _ _ rfl).c 2 (.int .i64 r.a) rfl; have d3 := (K1.out.bx 0 _ _ _ rfl).c 3 (.string r.l) rfl; have d4 := (K1.out.bx 0 _ _ _ rfl).c 4 (.int .u8 r.p) rfl; have d5 := (K1.out.bx 0 _ _ _ rfl).c 5 (.slice r.sp r.m r.cap) rfl) | ((with_reducible refine at_load rt6 w.heap.size (i6 r) ?_ ?_ (.tmp 1) ?_ ?_ ?_ ?_); exact K1.out.bx 0 _ _ _ rfl; rfl; rfl; rfl; rfl) | (go_at_call 38; refine (hC y).mono ?_; rintro e y2 ⟨rfl, h2⟩; have K2 : Hid (Below w.heap.size w y2) := (K1.out.below h2).low; clear h2))
  go_ret
  exact ⟨rfl, K2.out⟩
theorem may_part (w : World) (r : Ri) (hk : Hid (r.k ≠ 2 ∧ r.p ≠ 0)) : Calls Tryd.prog 21 #[.agg (i6 r)] w fun e w' => e = .returned (.bool (mayI r)) ∧ Below w.heap.size w w' := by
  have hB : Hid (Fm w [(w.heap.size, i6 r, 39)] (w.alloc (.cells (i6 r) 39))) := Fm.one w _ _
  have e0 : mayI r = false := by unfold mayI; rw [if_neg hk.out.1, if_pos hk.out.2]
  rw [e0]
  have k2 : (r.k == 2) = false := by rw [beq_eq_false_iff_ne]; exact hk.out.1
  have p0 : (r.p != 0) = true := by rw [bne_iff_ne]; exact hk.out.2
  go_enter Tryd.func21, Tryd.ntmps21
  go_wp2_with (first | ((with_reducible refine gen_world (w.alloc (.cells (i6 r) 39)) (Fm w [(w.heap.size, i6 r, 39)]) hB.out ?_); intro y K1; have d0 := (K1.out.bx 0 _ _ _ rfl).c 0 (.int .u8 r.k) rfl; have d1 := (K1.out.bx 0 _ _ _ rfl).c 1 (.string r.n) rfl; have d2 := (K1.out.bx 0 _ _ _ rfl).c 2 (.int .i64 r.a) rfl; have d3 := (K1.out.bx 0 _ _ _ rfl).c 3 (.string r.l) rfl; have d4 := (K1.out.bx 0 _ _ _ rfl).c 4 (.int .u8 r.p) rfl; have d5 := (K1.out.bx 0 _ _ _ rfl).c 5 (.slice r.sp r.m r.cap) rfl))
  go_ret
  exact ⟨rfl, K1.out.low⟩
theorem may_label (w : World) (r : Ri) (hk : Hid (r.k = 1 ∧ r.p = 0)) : Calls Tryd.prog 21 #[.agg (i6 r)] w fun e w' => e = .returned (.bool (mayI r)) ∧ Below w.heap.size w w' := by
  have hB : Hid (Fm w [(w.heap.size, i6 r, 39)] (w.alloc (.cells (i6 r) 39))) := Fm.one w _ _
  obtain ⟨R, hR⟩ : ∃ R, Hid (mayI r = R) := ⟨_, (rfl : mayI r = mayI r)⟩
  rw [hR.out]
  have hk1 := hk.out.1
  have p0 : (r.p != 0) = false := by rw [bne_eq_false_iff_eq]; exact hk.out.2
  have k2 : (r.k == 2) = false := by rw [beq_eq_false_iff_ne]; omega
  have k1 : (r.k == 1) = true := by rw [beq_iff_eq]; omega
  have fin : Hid (R = (isNm r.n && (decide (r.a = 0) && (decide (r.l.size = 0) && decide (r.m = 0))))) := by
    show _ = _
    rw [← hR.out]
    unfold mayI
    rw [if_neg (by omega), if_neg (by have := hk.out.2; omega), if_pos hk1]
  clear hk1
  have hN := fun v => risname_any r.n v
  generalize isNm r.n = b0 at hN fin
  obtain ⟨b1, s1⟩ : ∃ b, decide (r.a = 0) = b := ⟨_, rfl⟩
  have t1 : (r.a == 0) = b1 := by rw [← s1, Bool.eq_iff_iff]; simp
  obtain ⟨b2, s2⟩ : ∃ b, decide (r.l.size = 0) = b := ⟨_, rfl⟩
  have t2 : r.l.toList.isEmpty = b2 := by rw [emp_is]; exact s2
  obtain ⟨b3, s3⟩ : ∃ b, decide (r.m = 0) = b := ⟨_, rfl⟩
  have t3 : ((r.m : Int) == 0) = b3 := by rw [← s3, Bool.eq_iff_iff]; simp
  rw [s1, s2, s3] at fin
  clear s1 s2 s3
  cases b0 <;> cases b1 <;> cases b2 <;> cases b3
  all_goals
    go_enter Tryd.func21, Tryd.ntmps21
    go_wp2_with (first | ((with_reducible refine gen_world (w.alloc (.cells (i6 r) 39)) (Fm w [(w.heap.size, i6 r, 39)]) hB.out ?_); intro y K1; have d0 := (K1.out.bx 0 _ _ _ rfl).c 0 (.int .u8 r.k) rfl; have d1 := (K1.out.bx 0 _ _ _ rfl).c 1 (.string r.n) rfl; have d2 := (K1.out.bx 0 _ _ _ rfl).c 2 (.int .i64 r.a) rfl; have d3 := (K1.out.bx 0 _ _ _ rfl).c 3 (.string r.l) rfl; have d4 := (K1.out.bx 0 _ _ _ rfl).c 4 (.int .u8 r.p) rfl; have d5 := (K1.out.bx 0 _ _ _ rfl).c 5 (.slice r.sp r.m r.cap) rfl) | (go_at_call 39; refine (hN _).mono ?_; rintro e y2 ⟨rfl, rfl⟩))
    go_ret
    exact ⟨bool_ret (by rw [fin.out]; rfl), K1.out.low⟩
theorem may_data (w : World) (r : Ri) (hk : Hid (r.k = 3 ∧ r.p = 0)) : Calls Tryd.prog 21 #[.agg (i6 r)] w fun e w' => e = .returned (.bool (mayI r)) ∧ Below w.heap.size w w' := by
  have hB : Hid (Fm w [(w.heap.size, i6 r, 39)] (w.alloc (.cells (i6 r) 39))) := Fm.one w _ _
  obtain ⟨R, hR⟩ : ∃ R, Hid (mayI r = R) := ⟨_, (rfl : mayI r = mayI r)⟩
  rw [hR.out]
  have hk1 := hk.out.1
  have p0 : (r.p != 0) = false := by rw [bne_eq_false_iff_eq]; exact hk.out.2
  have k2 : (r.k == 2) = false := by rw [beq_eq_false_iff_ne]; omega
  have k1 : (r.k == 1) = false := by rw [beq_eq_false_iff_ne]; omega
  have k3 : (r.k == 3) = true := by rw [beq_iff_eq]; omega
  have fin : Hid (R = (decide (r.n.size = 0) && (decide (r.a = 0) && (decide (r.l.size = 0) && (decide (1 ≤ r.m) && decide (r.m ≤ 256)))))) := by
    show _ = _
    rw [← hR.out]
    unfold mayI
    rw [if_neg (by omega), if_neg (by have := hk.out.2; omega), if_neg (by omega), if_pos hk1]
  clear hk1
  obtain ⟨b1, s1⟩ : ∃ b, decide (r.n.size = 0) = b := ⟨_, rfl⟩
  have t1 : r.n.toList.isEmpty = b1 := by rw [emp_is]; exact s1
  obtain ⟨b2, s2⟩ : ∃ b, decide (r.a = 0) = b := ⟨_, rfl⟩
  have t2 : (r.a == 0) = b2 := by rw [← s2, Bool.eq_iff_iff]; simp
  obtain ⟨b3, s3⟩ : ∃ b, decide (r.l.size = 0) = b := ⟨_, rfl⟩
  have t3 : r.l.toList.isEmpty = b3 := by rw [emp_is]; exact s3
  obtain ⟨b4, s4⟩ : ∃ b, decide (1 ≤ r.m) = b := ⟨_, rfl⟩
  have t4 : decide ((1 : Int) ≤ (r.m : Int)) = b4 := by rw [← s4, Bool.eq_iff_iff, decide_eq_true_iff, decide_eq_true_iff]; omega
  obtain ⟨b5, s5⟩ : ∃ b, decide (r.m ≤ 256) = b := ⟨_, rfl⟩
  have t5 : decide ((r.m : Int) ≤ 256) = b5 := by rw [← s5, Bool.eq_iff_iff, decide_eq_true_iff, decide_eq_true_iff]; omega
  rw [s1, s2, s3, s4, s5] at fin
  clear s1 s2 s3 s4 s5
  cases b1 <;> cases b2 <;> cases b3 <;> cases b4 <;> cases b5
  all_goals
    go_enter Tryd.func21, Tryd.ntmps21
    go_wp2_with (first | ((with_reducible refine gen_world (w.alloc (.cells (i6 r) 39)) (Fm w [(w.heap.size, i6 r, 39)]) hB.out ?_); intro y K1; have d0 := (K1.out.bx 0 _ _ _ rfl).c 0 (.int .u8 r.k) rfl; have d1 := (K1.out.bx 0 _ _ _ rfl).c 1 (.string r.n) rfl; have d2 := (K1.out.bx 0 _ _ _ rfl).c 2 (.int .i64 r.a) rfl; have d3 := (K1.out.bx 0 _ _ _ rfl).c 3 (.string r.l) rfl; have d4 := (K1.out.bx 0 _ _ _ rfl).c 4 (.int .u8 r.p) rfl; have d5 := (K1.out.bx 0 _ _ _ rfl).c 5 (.slice r.sp r.m r.cap) rfl))
    go_ret
    exact ⟨bool_ret (by rw [fin.out]; rfl), K1.out.low⟩
theorem may_at (w : World) (r : Ri) (hk : Hid (r.k = 4 ∧ r.p = 0)) : Calls Tryd.prog 21 #[.agg (i6 r)] w fun e w' => e = .returned (.bool (mayI r)) ∧ Below w.heap.size w w' := by
  have hB : Hid (Fm w [(w.heap.size, i6 r, 39)] (w.alloc (.cells (i6 r) 39))) := Fm.one w _ _
  obtain ⟨R, hR⟩ : ∃ R, Hid (mayI r = R) := ⟨_, (rfl : mayI r = mayI r)⟩
  rw [hR.out]
  have hk1 := hk.out.1
  have p0 : (r.p != 0) = false := by rw [bne_eq_false_iff_eq]; exact hk.out.2
  have k2 : (r.k == 2) = false := by rw [beq_eq_false_iff_ne]; omega
  have k1 : (r.k == 1) = false := by rw [beq_eq_false_iff_ne]; omega
  have k3 : (r.k == 3) = false := by rw [beq_eq_false_iff_ne]; omega
  have k4 : (r.k == 4) = true := by rw [beq_iff_eq]; omega
  have fin : Hid (R = (decide (r.n.size = 0) && (decide (r.l.size = 0) && (decide (r.m = 0) && (decide (0 ≤ r.a) && decide (r.a ≤ 65535)))))) := by
    show _ = _
    rw [← hR.out]
    unfold mayI
    rw [if_neg (by omega), if_neg (by have := hk.out.2; omega), if_neg (by omega), if_neg (by omega), if_pos hk1]
  clear hk1
  obtain ⟨b1, s1⟩ : ∃ b, decide (r.n.size = 0) = b := ⟨_, rfl⟩
  have t1 : r.n.toList.isEmpty = b1 := by rw [emp_is]; exact s1
  obtain ⟨b2, s2⟩ : ∃ b, decide (r.l.size = 0) = b := ⟨_, rfl⟩
  have t2 : r.l.toList.isEmpty = b2 := by rw [emp_is]; exact s2
  obtain ⟨b3, s3⟩ : ∃ b, decide (r.m = 0) = b := ⟨_, rfl⟩
  have t3 : ((r.m : Int) == 0) = b3 := by rw [← s3, Bool.eq_iff_iff]; simp
  obtain ⟨b4, s4⟩ : ∃ b, decide (0 ≤ r.a) = b := ⟨_, rfl⟩
  have t4 : decide (0 ≤ r.a) = b4 := by exact s4
  obtain ⟨b5, s5⟩ : ∃ b, decide (r.a ≤ 65535) = b := ⟨_, rfl⟩
  have t5 : decide (r.a ≤ 65535) = b5 := by exact s5
  rw [s1, s2, s3, s4, s5] at fin
  clear s1 s2 s3 s4 s5
  cases b1 <;> cases b2 <;> cases b3 <;> cases b4 <;> cases b5
  all_goals
    go_enter Tryd.func21, Tryd.ntmps21
    go_wp2_with (first | ((with_reducible refine gen_world (w.alloc (.cells (i6 r) 39)) (Fm w [(w.heap.size, i6 r, 39)]) hB.out ?_); intro y K1; have d0 := (K1.out.bx 0 _ _ _ rfl).c 0 (.int .u8 r.k) rfl; have d1 := (K1.out.bx 0 _ _ _ rfl).c 1 (.string r.n) rfl; have d2 := (K1.out.bx 0 _ _ _ rfl).c 2 (.int .i64 r.a) rfl; have d3 := (K1.out.bx 0 _ _ _ rfl).c 3 (.string r.l) rfl; have d4 := (K1.out.bx 0 _ _ _ rfl).c 4 (.int .u8 r.p) rfl; have d5 := (K1.out.bx 0 _ _ _ rfl).c 5 (.slice r.sp r.m r.cap) rfl))
    go_ret
    exact ⟨bool_ret (by rw [fin.out]; rfl), K1.out.low⟩
theorem may_addr (w : World) (r : Ri) (hk : Hid (r.k = 5 ∧ r.p = 0)) : Calls Tryd.prog 21 #[.agg (i6 r)] w fun e w' => e = .returned (.bool (mayI r)) ∧ Below w.heap.size w w' := by
  have hB : Hid (Fm w [(w.heap.size, i6 r, 39)] (w.alloc (.cells (i6 r) 39))) := Fm.one w _ _
  obtain ⟨R, hR⟩ : ∃ R, Hid (mayI r = R) := ⟨_, (rfl : mayI r = mayI r)⟩
  rw [hR.out]
  have hk1 := hk.out.1
  have p0 : (r.p != 0) = false := by rw [bne_eq_false_iff_eq]; exact hk.out.2
  have k2 : (r.k == 2) = false := by rw [beq_eq_false_iff_ne]; omega
  have k1 : (r.k == 1) = false := by rw [beq_eq_false_iff_ne]; omega
  have k3 : (r.k == 3) = false := by rw [beq_eq_false_iff_ne]; omega
  have k4 : (r.k == 4) = false := by rw [beq_eq_false_iff_ne]; omega
  have k5 : (r.k == 5) = true := by rw [beq_iff_eq]; omega
  have fin : Hid (R = (isNm r.l && (decide (r.n.size = 0) && (decide (r.a = 0) && decide (r.m = 0))))) := by
    show _ = _
    rw [← hR.out]
    unfold mayI
    rw [if_neg (by omega), if_neg (by have := hk.out.2; omega), if_neg (by omega), if_neg (by omega), if_neg (by omega), if_pos hk1]
  clear hk1
  have hN := fun v => risname_any r.l v
  generalize isNm r.l = b0 at hN fin
  obtain ⟨b1, s1⟩ : ∃ b, decide (r.n.size = 0) = b := ⟨_, rfl⟩
  have t1 : r.n.toList.isEmpty = b1 := by rw [emp_is]; exact s1
  obtain ⟨b2, s2⟩ : ∃ b, decide (r.a = 0) = b := ⟨_, rfl⟩
  have t2 : (r.a == 0) = b2 := by rw [← s2, Bool.eq_iff_iff]; simp
  obtain ⟨b3, s3⟩ : ∃ b, decide (r.m = 0) = b := ⟨_, rfl⟩
  have t3 : ((r.m : Int) == 0) = b3 := by rw [← s3, Bool.eq_iff_iff]; simp
  rw [s1, s2, s3] at fin
  clear s1 s2 s3
  cases b0 <;> cases b1 <;> cases b2 <;> cases b3
  all_goals
    go_enter Tryd.func21, Tryd.ntmps21
    go_wp2_with (first | ((with_reducible refine gen_world (w.alloc (.cells (i6 r) 39)) (Fm w [(w.heap.size, i6 r, 39)]) hB.out ?_); intro y K1; have d0 := (K1.out.bx 0 _ _ _ rfl).c 0 (.int .u8 r.k) rfl; have d1 := (K1.out.bx 0 _ _ _ rfl).c 1 (.string r.n) rfl; have d2 := (K1.out.bx 0 _ _ _ rfl).c 2 (.int .i64 r.a) rfl; have d3 := (K1.out.bx 0 _ _ _ rfl).c 3 (.string r.l) rfl; have d4 := (K1.out.bx 0 _ _ _ rfl).c 4 (.int .u8 r.p) rfl; have d5 := (K1.out.bx 0 _ _ _ rfl).c 5 (.slice r.sp r.m r.cap) rfl) | (go_at_call 39; refine (hN _).mono ?_; rintro e y2 ⟨rfl, rfl⟩))
    go_ret
    exact ⟨bool_ret (by rw [fin.out]; rfl), K1.out.low⟩
theorem may_none (w : World) (r : Ri) (hk : Hid (r.k ≠ 2 ∧ r.k ≠ 1 ∧ r.k ≠ 3 ∧ r.k ≠ 4 ∧ r.k ≠ 5 ∧ r.p = 0)) : Calls Tryd.prog 21 #[.agg (i6 r)] w fun e w' => e = .returned (.bool (mayI r)) ∧ Below w.heap.size w w' := by
  have hB : Hid (Fm w [(w.heap.size, i6 r, 39)] (w.alloc (.cells (i6 r) 39))) := Fm.one w _ _
  obtain ⟨h2, h1, h3, h4, h5, hp⟩ := hk.out
  have e0 : mayI r = false := by unfold mayI; rw [if_neg h2, if_neg (by omega), if_neg h1, if_neg h3, if_neg h4, if_neg h5]
  rw [e0]
  have p0 : (r.p != 0) = false := by rw [bne_eq_false_iff_eq]; exact hp
  have k2 : (r.k == 2) = false := by rw [beq_eq_false_iff_ne]; exact h2
  have k1 : (r.k == 1) = false := by rw [beq_eq_false_iff_ne]; exact h1
  have k3 : (r.k == 3) = false := by rw [beq_eq_false_iff_ne]; exact h3
  have k4 : (r.k == 4) = false := by rw [beq_eq_false_iff_ne]; exact h4
  have k5 : (r.k == 5) = false := by rw [beq_eq_false_iff_ne]; exact h5
  clear h2 h1 h3 h4 h5 hp
  go_enter Tryd.func21, Tryd.ntmps21
  go_wp2_with (first | ((with_reducible refine gen_world (w.alloc (.cells (i6 r) 39)) (Fm w [(w.heap.size, i6 r, 39)]) hB.out ?_); intro y K1; have d0 := (K1.out.bx 0 _ _ _ rfl).c 0 (.int .u8 r.k) rfl; have d1 := (K1.out.bx 0 _ _ _ rfl).c 1 (.string r.n) rfl; have d2 := (K1.out.bx 0 _ _ _ rfl).c 2 (.int .i64 r.a) rfl; have d3 := (K1.out.bx 0 _ _ _ rfl).c 3 (.string r.l) rfl; have d4 := (K1.out.bx 0 _ _ _ rfl).c 4 (.int .u8 r.p) rfl; have d5 := (K1.out.bx 0 _ _ _ rfl).c 5 (.slice r.sp r.m r.cap) rfl))
  go_ret
  exact ⟨rfl, K1.out.low⟩
theorem rmayI_any (w : World) (r : Ri) : Calls Tryd.prog 21 #[.agg (i6 r)] w fun e w' => e = .returned (.bool (mayI r)) ∧ Below w.heap.size w w' := by
  by_cases h2 : r.k = 2
  · exact may_code w r h2
  by_cases hp : r.p = 0
  · by_cases h1 : r.k = 1
    · exact may_label w r ⟨h1, hp⟩
    by_cases h3 : r.k = 3
    · exact may_data w r ⟨h3, hp⟩
    by_cases h4 : r.k = 4
    · exact may_at w r ⟨h4, hp⟩
    by_cases h5 : r.k = 5
    · exact may_addr w r ⟨h5, hp⟩
    exact may_none w r ⟨h2, h1, h3, h4, h5, hp⟩
  · exact may_part w r ⟨h2, hp⟩
end Go.Proofs.YtmaedkbmjbggpaaDoor
/- What a label's name is, which part a form takes, an item without anything: the program's. -/
namespace Go.Proofs.YtmaedkbmjbggpaaDoor
open Go Go.RowKit
set_option linter.unusedVariables false
set_option maxHeartbeats 3000000
set_option maxRecDepth 20000

theorem letter_yes (x : Int) (w : World) (h1 : 97 ≤ x) (h2 : x ≤ 122) : Calls Tryd.prog 61 #[.int .u8 x] w fun e w' => e = .returned (.bool true) ∧ w' = w := by
  go_enter Tryd.func61, Tryd.ntmps61
  go_wp2
  go_ret
  exact ⟨rfl, rfl⟩
theorem letter_no (x : Int) (w : World) (h : x < 97 ∨ 122 < x) : Calls Tryd.prog 61 #[.int .u8 x] w fun e w' => e = .returned (.bool false) ∧ w' = w := by
  by_cases h1 : x < 97
  · have h' : ¬ 97 ≤ x := by omega
    clear h h1
    go_enter Tryd.func61, Tryd.ntmps61
    go_wp2
    go_ret
    exact ⟨rfl, rfl⟩
  · have h1' : 97 ≤ x := by omega
    have h2 : ¬ x ≤ 122 := by omega
    clear h h1
    go_enter Tryd.func61, Tryd.ntmps61
    go_wp2
    go_ret
    exact ⟨rfl, rfl⟩
theorem dig_yes (x : Int) (w : World) (h1 : 48 ≤ x) (h2 : x ≤ 57) : Calls Tryd.prog 62 #[.int .u8 x] w fun e w' => e = .returned (.bool true) ∧ w' = w := by
  go_enter Tryd.func62, Tryd.ntmps62
  go_wp2
  go_ret
  exact ⟨rfl, rfl⟩
theorem dig_no (x : Int) (w : World) (h : x < 48 ∨ 57 < x) : Calls Tryd.prog 62 #[.int .u8 x] w fun e w' => e = .returned (.bool false) ∧ w' = w := by
  by_cases h1 : x < 48
  · have h' : ¬ 48 ≤ x := by omega
    clear h h1
    go_enter Tryd.func62, Tryd.ntmps62
    go_wp2
    go_ret
    exact ⟨rfl, rfl⟩
  · have h1' : 48 ≤ x := by omega
    have h2 : ¬ x ≤ 57 := by omega
    clear h h1
    go_enter Tryd.func62, Tryd.ntmps62
    go_wp2
    go_ret
    exact ⟨rfl, rfl⟩

theorem pisname_any (s : ByteArray) (w : World) : Calls Tryd.prog 35 #[.string s] w fun e w' => e = .returned (.bool (isNm s)) ∧ w' = w := by
  obtain ⟨b, hb⟩ : ∃ b, Hid (isNm s = b) := ⟨_, (rfl : isNm s = isNm s)⟩
  rw [hb.out]
  by_cases h0 : s.size = 0
  · have fin : Hid (isNm s = false) := decide_eq_false fun h => by omega
    have hp : (s.size : Int) < 1 := by omega
    clear h0
    go_enter Tryd.func35, Tryd.ntmps35
    go_wp2
    go_ret
    exact ⟨bool_ret (by rw [← hb.out, fin.out]), rfl⟩
  have hp : (0 : Int) < s.size := by omega
  have hp1 : ¬ (s.size : Int) < 1 := by omega
  by_cases h1 : s.size ≤ 16
  · have h1i : (s.size : Int) ≤ 16 := by omega
    have h1n : ¬ (16 : Int) < s.size := by omega
    by_cases h2 : 97 ≤ (s[0]'(by omega)).toNat ∧ (s[0]'(by omega)).toNat ≤ 122
    · have hL0 := fun v => letter_yes ((s[0]'(by omega)).toNat : Int) v (by omega) (by omega)
      have h2' : Hid (97 ≤ (s[0]'(by omega)).toNat ∧ (s[0]'(by omega)).toNat ≤ 122) := h2
      clear h2
      go_enter Tryd.func35, Tryd.ntmps35
      go_wp2_with (go_at_call 61; refine (hL0 _).mono ?_; rintro e y ⟨rfl, rfl⟩)
      go_loopw [20] (fun i wz => ∃ p : Nat, p ≤ s.size ∧ i = .int .i64 (p : Int) ∧ Hid (∀ j (h : j < s.size), j < p → nmc (s[j]'h) = true) ∧ wz = y) (fun i _ => (s.size - intOf i).toNat)
      case atStart => exact ⟨0, by omega, rfl, (fun j _ h => absurd h (by omega) : ∀ j (h : j < s.size), j < 0 → nmc (s[j]'h) = true), rfl⟩
      case round =>
        obtain ⟨p, hps, rfl, J, rfl⟩ := hrel
        by_cases hlt : p < s.size
        · have hpi : (p : Int) < s.size := by omega
          have hlt' : Hid (p < s.size) := hlt
          by_cases hn : nmc (s[p]'hlt) = true
          · have fin : Hid (∀ j (h : j < s.size), j < p + 1 → nmc (s[j]'h) = true) := fun j h hj => by
              rcases Nat.lt_succ_iff_lt_or_eq.1 hj with h' | rfl
              · exact J.out j h h'
              · exact hn
            have hn' := of_decide_eq_true hn
            replace hn : Hid _ := hn
            rcases (show (97 : Int) ≤ ((s[p]'hlt).toNat : Int) ∧ ((s[p]'hlt).toNat : Int) ≤ 122 ∨ (48 : Int) ≤ ((s[p]'hlt).toNat : Int) ∧ ((s[p]'hlt).toNat : Int) ≤ 57 ∨ ((s[p]'hlt).toNat : Int) = 45 by omega) with k | k | k
            · have hL := fun v => letter_yes ((s[p]'hlt).toNat : Int) v k.1 k.2
              clear hn' k
              go_wp2_with (go_at_call 61; refine (hL _).mono ?_; rintro e y2 ⟨rfl, rfl⟩)
              go_roundw
              case rel => exact ⟨p + 1, by have := hlt'.out; omega, by simp, fin, by first | trivial | rfl⟩
              case measure => have := hlt'.out; simp [intOf]; omega
            · have hL := fun v => letter_no ((s[p]'hlt).toNat : Int) v (by omega)
              have hD := fun v => dig_yes ((s[p]'hlt).toNat : Int) v k.1 k.2
              clear hn' k
              go_wp2_with (first | (go_at_call 61; refine (hL _).mono ?_; rintro e y2 ⟨rfl, rfl⟩) | (go_at_call 62; refine (hD _).mono ?_; rintro e y3 ⟨rfl, rfl⟩))
              go_roundw
              case rel => exact ⟨p + 1, by have := hlt'.out; omega, by simp, fin, by first | trivial | rfl⟩
              case measure => have := hlt'.out; simp [intOf]; omega
            · have hL := fun v => letter_no ((s[p]'hlt).toNat : Int) v (by omega)
              have hD := fun v => dig_no ((s[p]'hlt).toNat : Int) v (by omega)
              have e_e : (((s[p]'hlt).toNat : Int) != 45) = false := by rw [bne_eq_false_iff_eq]; omega
              clear hn' k
              go_wp2_with (first | (go_at_call 61; refine (hL _).mono ?_; rintro e y2 ⟨rfl, rfl⟩) | (go_at_call 62; refine (hD _).mono ?_; rintro e y3 ⟨rfl, rfl⟩))
              go_roundw
              case rel => exact ⟨p + 1, by have := hlt'.out; omega, by simp, fin, by first | trivial | rfl⟩
              case measure => have := hlt'.out; simp [intOf]; omega
          · have fin : Hid (isNm s = false) := decide_eq_false fun h => hn (h.2.2.2 p hlt)
            have hn' : ¬ ((97 ≤ (s[p]'hlt).toNat ∧ (s[p]'hlt).toNat ≤ 122) ∨ (48 ≤ (s[p]'hlt).toNat ∧ (s[p]'hlt).toNat ≤ 57) ∨ (s[p]'hlt).toNat = 45) := fun h => hn (decide_eq_true h)
            replace hn : Hid _ := hn
            have hL := fun v => letter_no ((s[p]'hlt).toNat : Int) v (by omega)
            have hD := fun v => dig_no ((s[p]'hlt).toNat : Int) v (by omega)
            have e_e : (((s[p]'hlt).toNat : Int) != 45) = true := by rw [bne_iff_ne]; omega
            clear hn'
            go_wp2_with (first | (go_at_call 61; refine (hL _).mono ?_; rintro e y2 ⟨rfl, rfl⟩) | (go_at_call 62; refine (hD _).mono ?_; rintro e y3 ⟨rfl, rfl⟩))
            go_ret
            exact ⟨bool_ret (by rw [← hb.out, fin.out]), rfl⟩
        · have hpe : p = s.size := by omega
          subst hpe
          go_wp2
          go_ret
          exact ⟨bool_ret (by rw [← hb.out]; exact (decide_eq_true ⟨by omega, h1, ⟨by omega, h2'.out⟩, fun j h => J.out j h h⟩).symm), rfl⟩
    · have fin : Hid (isNm s = false) := decide_eq_false fun h => h2 h.2.2.1.2
      have hL0 := fun v => letter_no ((s[0]'(by omega)).toNat : Int) v (by omega)
      clear h2
      go_enter Tryd.func35, Tryd.ntmps35
      go_wp2_with (go_at_call 61; refine (hL0 _).mono ?_; rintro e y ⟨rfl, rfl⟩)
      go_ret
      exact ⟨bool_ret (by rw [← hb.out, fin.out]), rfl⟩
  · have h1i : (16 : Int) < s.size := by omega
    have fin : Hid (isNm s = false) := decide_eq_false fun h => h1 h.2.1
    go_enter Tryd.func35, Tryd.ntmps35
    go_wp2
    go_ret
    exact ⟨bool_ret (by rw [← hb.out, fin.out]), rfl⟩

/-- Which part stands where a form has its operand. -/
def takesB (f p : Int) : Bool := if f = 4 then decide (p = 2 ∨ p = 3) else if f = 5 ∨ f = 6 then decide (p = 1) else false
theorem takes_any (f p : Int) (w : World) : Calls Tryd.prog 65 #[.int .u8 f, .int .u8 p] w fun e w' => e = .returned (.bool (takesB f p)) ∧ w' = w := by
  obtain ⟨b, hb⟩ : ∃ b, Hid (takesB f p = b) := ⟨_, (rfl : takesB f p = takesB f p)⟩
  rw [hb.out]
  have hb' := hb.out
  unfold takesB at hb'
  by_cases f4 : f = 4
  · rw [if_pos f4] at hb'
    have q4 : (f == 4) = true := by rw [beq_iff_eq]; exact f4
    obtain ⟨b2, q2⟩ : ∃ b, (p == 2) = b := ⟨_, rfl⟩
    obtain ⟨b3, q3⟩ : ∃ b, (p == 3) = b := ⟨_, rfl⟩
    have fin : Hid (b = (b2 || b3)) := by
      show _ = _
      rw [← hb', ← q2, ← q3, Bool.eq_iff_iff]
      simp
    clear hb' hb f4
    cases b2
    all_goals
      go_enter Tryd.func65, Tryd.ntmps65
      go_wp2
      go_ret
      exact ⟨bool_ret (by rw [fin.out]; rfl), rfl⟩
  · rw [if_neg f4] at hb'
    have q4 : (f == 4) = false := by rw [beq_eq_false_iff_ne]; exact f4
    by_cases f5 : f = 5
    · have q5 : (f == 5) = true := by rw [beq_iff_eq]; exact f5
      rw [if_pos (.inl f5)] at hb'
      obtain ⟨b1, q1⟩ : ∃ b, (p == 1) = b := ⟨_, rfl⟩
      have fin : Hid (b = b1) := by
        show _ = _
        rw [← hb', ← q1, Bool.eq_iff_iff]
        simp
      clear hb' hb f4 f5
      go_enter Tryd.func65, Tryd.ntmps65
      go_wp2
      go_ret
      exact ⟨bool_ret fin.out.symm, rfl⟩
    · have q5 : (f == 5) = false := by rw [beq_eq_false_iff_ne]; exact f5
      by_cases f6 : f = 6
      · have q6 : (f == 6) = true := by rw [beq_iff_eq]; exact f6
        rw [if_pos (.inr f6)] at hb'
        obtain ⟨b1, q1⟩ : ∃ b, (p == 1) = b := ⟨_, rfl⟩
        have fin : Hid (b = b1) := by
          show _ = _
          rw [← hb', ← q1, Bool.eq_iff_iff]
          simp
        clear hb' hb f4 f5 f6
        go_enter Tryd.func65, Tryd.ntmps65
        go_wp2
        go_ret
        exact ⟨bool_ret fin.out.symm, rfl⟩
      · have q6 : (f == 6) = false := by rw [beq_eq_false_iff_ne]; exact f6
        rw [if_neg (by rintro (h | h); exact f5 h; exact f6 h)] at hb'
        have fin : Hid (b = false) := hb'.symm
        clear hb' hb f4 f5 f6
        go_enter Tryd.func65, Tryd.ntmps65
        go_wp2
        go_ret
        exact ⟨bool_ret fin.out.symm, rfl⟩

/-- An item that has nothing. -/
def emptyI (r : Ri) : Bool := decide (r.n.size = 0) && (decide (r.a = 0) && (decide (r.l.size = 0) && (decide (r.p = 0) && decide (r.m = 0))))
theorem and5 (b1 b2 b3 b4 b5 : Bool) : b1 = false ∨ (b1 = true ∧ b2 = false) ∨ (b1 = true ∧ b2 = true ∧ b3 = false) ∨ (b1 = true ∧ b2 = true ∧ b3 = true ∧ b4 = false) ∨ (b1 = true ∧ b2 = true ∧ b3 = true ∧ b4 = true ∧ b5 = false) ∨ (b1 = true ∧ b2 = true ∧ b3 = true ∧ b4 = true ∧ b5 = true) := by revert b1 b2 b3 b4 b5; decide
theorem isempty_any (w : World) (r : Ri) : Calls Tryd.prog 37 #[.agg (i6 r)] w fun e w' => e = .returned (.bool (emptyI r)) ∧ Below w.heap.size w w' := by
  have hB : Hid (Fm w [(w.heap.size, i6 r, 39)] (w.alloc (.cells (i6 r) 39))) := Fm.one w _ _
  have q1 := emp_is r.n
  have q3 := emp_is r.l
  have e2 : (r.a == 0) = decide (r.a = 0) := by rw [Bool.eq_iff_iff]; simp
  have e4 : (r.p == 0) = decide (r.p = 0) := by rw [Bool.eq_iff_iff]; simp
  have e5 : ((r.m : Int) == 0) = decide (r.m = 0) := by rw [Bool.eq_iff_iff]; simp
  have fin : Hid (emptyI r = (decide (r.n.size = 0) && (decide (r.a = 0) && (decide (r.l.size = 0) && (decide (r.p = 0) && decide (r.m = 0)))))) := (rfl : emptyI r = _)
  generalize decide (r.n.size = 0) = b1 at q1 fin
  generalize decide (r.a = 0) = b2 at e2 fin
  generalize decide (r.l.size = 0) = b3 at q3 fin
  generalize decide (r.p = 0) = b4 at e4 fin
  generalize decide (r.m = 0) = b5 at e5 fin
  generalize emptyI r = R at fin
  rcases and5 b1 b2 b3 b4 b5 with rfl | ⟨rfl, rfl⟩ | ⟨rfl, rfl, rfl⟩ | ⟨rfl, rfl, rfl, rfl⟩ | ⟨rfl, rfl, rfl, rfl, rfl⟩ | ⟨rfl, rfl, rfl, rfl, rfl⟩
  all_goals
    go_enter Tryd.func37, Tryd.ntmps37
    go_wp2_with ((with_reducible refine gen_world (w.alloc (.cells (i6 r) 39)) (Fm w [(w.heap.size, i6 r, 39)]) hB.out ?_); intro y K1; have d0 := (K1.out.bx 0 _ _ _ rfl).c 0 (.int .u8 r.k) rfl; have d1 := (K1.out.bx 0 _ _ _ rfl).c 1 (.string r.n) rfl; have d2 := (K1.out.bx 0 _ _ _ rfl).c 2 (.int .i64 r.a) rfl; have d3 := (K1.out.bx 0 _ _ _ rfl).c 3 (.string r.l) rfl; have d4 := (K1.out.bx 0 _ _ _ rfl).c 4 (.int .u8 r.p) rfl; have d5 := (K1.out.bx 0 _ _ _ rfl).c 5 (.slice r.sp r.m r.cap) rfl)
    go_ret
    exact ⟨bool_ret (by rw [fin.out]; rfl), K1.out.low⟩
end Go.Proofs.YtmaedkbmjbggpaaDoor
