/- An item of a source: which may be, by plain mathematics and by the document. -/
import Derived.Test.YtfdjifgmlgpjgaaDoorIa
import Derived.Test.YtfdjifgmlgpjgaaDoorORefD
namespace Go.Proofs.YtfdjifgmlgpjgaaDoor
open Go Go.RowKit
set_option linter.unusedVariables false
set_option maxHeartbeats 3000000
set_option maxRecDepth 20000

/-- An item as it lies in memory: its bytes lie elsewhere. -/
structure Ri where
  k : Int
  n : ByteArray
  a : Int
  l : ByteArray
  p : Int
  sp : Option Addr
  m : Nat
  cap : Nat
def i6 (r : Ri) : Array Value := #[.int .u8 r.k, .string r.n, .int .i64 r.a, .string r.l, .int .u8 r.p, .slice r.sp r.m r.cap]
def lowI (n : ByteArray) (f : Nat) : Int := if f = 2 then (if n = ⟨#[76, 68, 78]⟩ then 1 else 0) else if f = 3 then 1 else 0
def highI (f : Nat) : Int := if f = 2 then 15 else if f = 3 then 7 else if f = 4 ∨ f = 5 then 255 else if f = 6 then 65535 else 0
/-- May an instruction of a source be so? -/
def codeF (f : Nat) (r : Ri) : Bool := decide (r.m = 0) && (if r.p = 0 then decide (r.l.size = 0) && (decide (lowI r.n f ≤ r.a) && decide (r.a ≤ highI f)) else isNm r.l && (decide (r.a = 0) && (if f = 4 then decide (r.p = 2 ∨ r.p = 3) else if f = 5 ∨ f = 6 then decide (r.p = 1) else false)))
def codeI (r : Ri) : Bool := match opOf r.n with | none => false | some n => codeF (fm n) r
/-- May an item be? -/
def mayI (r : Ri) : Bool := if r.k = 2 then codeI r else if r.p ≠ 0 then false
  else if r.k = 1 then isNm r.n && (decide (r.a = 0) && (decide (r.l.size = 0) && decide (r.m = 0)))
  else if r.k = 3 then decide (r.n.size = 0) && (decide (r.a = 0) && (decide (r.l.size = 0) && (decide (1 ≤ r.m) && decide (r.m ≤ 256))))
  else if r.k = 4 then decide (r.n.size = 0) && (decide (r.l.size = 0) && (decide (r.m = 0) && (decide (0 ≤ r.a) && decide (r.a ≤ 65535))))
  else if r.k = 5 then isNm r.l && (decide (r.n.size = 0) && (decide (r.a = 0) && decide (r.m = 0)))
  else false
theorem rtI : Rt Tryd.prog 50 4 := ⟨⟨_, Tryd.underlying50, rfl⟩, by kernel_rfl⟩
theorem rt6 : Rt Tryd.prog 35 6 := ⟨⟨_, Tryd.underlying35, rfl⟩, by kernel_rfl⟩

theorem rmost_any (n : ByteArray) (f : Nat) (w : World) (h1 : 1 ≤ f) (h6 : f ≤ 6) : Calls Tryd.prog 75 #[.string n, .int .u8 f] w fun e w' => e = .returned (.tuple #[.int .i64 (lowI n f), .int .i64 (highI f), .bool true]) ∧ w' = w := by
  have hq := str_is n [76, 68, 78]
  unfold lowI
  by_cases hn : n = ⟨#[76, 68, 78]⟩
  · rw [if_pos hn]
    rw [decide_eq_true (show n = ⟨[76, 68, 78].toArray⟩ from hn)] at hq
    clear hn
    rcases (show f = 1 ∨ f = 2 ∨ f = 3 ∨ f = 4 ∨ f = 5 ∨ f = 6 by omega) with rfl | rfl | rfl | rfl | rfl | rfl
    all_goals
      go_enter Tryd.func75, Tryd.ntmps75
      go_wp2
      (try simp only [Exit.inBlock, Exit.then])
      refine bodyPost_ret (by simp [results, Tryd.results75, go_sem]; try rfl) rfl ?_
      exact ⟨rfl, rfl⟩
  · rw [if_neg hn]
    rw [decide_eq_false (show ¬ n = ⟨[76, 68, 78].toArray⟩ from hn)] at hq
    clear hn
    rcases (show f = 1 ∨ f = 2 ∨ f = 3 ∨ f = 4 ∨ f = 5 ∨ f = 6 by omega) with rfl | rfl | rfl | rfl | rfl | rfl
    all_goals
      go_enter Tryd.func75, Tryd.ntmps75
      go_wp2
      (try simp only [Exit.inBlock, Exit.then])
      refine bodyPost_ret (by simp [results, Tryd.results75, go_sem]; try rfl) rfl ?_
      exact ⟨rfl, rfl⟩

theorem rfind_yes (s : ByteArray) (n : Nat) (ho : opOf s = some n) (w : World) : Calls Tryd.prog 29 #[.string s] w fun e w' => e = .returned (.tuple #[.agg #[.string (nm n), .int .u8 (fm n : Nat), .int .i64 (lay (fm n * 3) : Nat), .int .i64 (cyc n : Nat)], .bool true]) ∧ Below w.heap.size w w' :=
  rfind_some s n ho (nm n) (fm n) (lay (fm n * 3)) (cyc n) (fun v => rinfo_any n v (opOf_lt ho).1) w
/-- What Find says, with the form alone named. -/
theorem rfind_form (s : ByteArray) (n : Nat) (ho : opOf s = some n) : ∃ X L c : _, (∀ w : World, Calls Tryd.prog 29 #[.string s] w fun e w' => e = .returned (.tuple #[.agg #[.string X, .int .u8 (fm n : Nat), .int .i64 (L : Int), .int .i64 (c : Int)], .bool true]) ∧ Below w.heap.size w w') ∧ L = (lay (fm n * 3) : Nat) :=
  ⟨nm n, (lay (fm n * 3) : Nat), (cyc n : Nat), fun w => rfind_yes s n ho w, rfl⟩

theorem code_find (w : World) (r : Ri) (f : Nat) (hf1 : 1 ≤ f) (hf6 : f ≤ 6) (X : ByteArray) (L c : Int) (hf : ∀ w : World, Calls Tryd.prog 29 #[.string r.n] w fun e w' => e = .returned (.tuple #[.agg #[.string X, .int .u8 (f : Int), .int .i64 L, .int .i64 c], .bool true]) ∧ Below w.heap.size w w') :
    Calls Tryd.prog 45 #[.agg (i6 r)] w fun e w' => e = .returned (.bool (codeF f r)) ∧ Below w.heap.size w w' := by
  have hB : Hid (Fm w [(w.heap.size, i6 r, 35)] (w.alloc (.cells (i6 r) 35))) := Fm.one w _ _
  obtain ⟨R, hR⟩ : ∃ R, Hid (codeF f r = R) := ⟨_, (rfl : codeF f r = codeF f r)⟩
  rw [hR.out]
  by_cases hm : r.m = 0
  · have m0 : ((r.m : Int) != 0) = false := by rw [bne_eq_false_iff_eq]; omega
    by_cases hp : r.p = 0
    · have p0 : (r.p == 0) = true := by rw [beq_iff_eq]; exact hp
      have hM := rmost_any r.n f
      have fin : Hid (R = (decide (r.l.size = 0) && (decide (lowI r.n f ≤ r.a) && decide (r.a ≤ highI f)))) := by
        show _ = _
        rw [← hR.out]
        unfold codeF
        rw [decide_eq_true hm, if_pos hp, Bool.true_and]
      have hL := emp_is r.l
      generalize lowI r.n f = lo at hM fin
      generalize highI f = hi at hM fin
      clear hm hp hR
      obtain ⟨b1, q1'⟩ : ∃ b, decide (r.l.size = 0) = b := ⟨_, rfl⟩
      obtain ⟨b2, q2'⟩ : ∃ b, decide (lo ≤ r.a) = b := ⟨_, rfl⟩
      obtain ⟨b3, q3'⟩ : ∃ b, decide (r.a ≤ hi) = b := ⟨_, rfl⟩
      rw [q1'] at hL fin
      rw [q2', q3'] at fin
      clear q1'
      cases b1 <;> cases b2 <;> cases b3
      all_goals
        go_enter Tryd.func45, Tryd.ntmps45
        go_wp2_with (first | ((with_reducible refine gen_world (w.alloc (.cells (i6 r) 35)) (Fm w [(w.heap.size, i6 r, 35)]) hB.out ?_); intro y K1; have d0 := (K1.out.bx 0 _ _ _ rfl).c 0 (.int .u8 r.k) rfl; have d1 := (K1.out.bx 0 _ _ _ rfl).c 1 (.string r.n) rfl; have d2 := (K1.out.bx 0 _ _ _ rfl).c 2 (.int .i64 r.a) rfl; have d3 := (K1.out.bx 0 _ _ _ rfl).c 3 (.string r.l) rfl; have d4 := (K1.out.bx 0 _ _ _ rfl).c 4 (.int .u8 r.p) rfl; have d5 := (K1.out.bx 0 _ _ _ rfl).c 5 (.slice r.sp r.m r.cap) rfl) | (go_at_call 29; refine (hf y).mono ?_; rintro e y2 ⟨rfl, h2⟩; have K3 : Hid (Fm w [(w.heap.size, i6 r, 35), (y2.heap.size, #[.string X, .int .u8 (f : Int), .int .i64 L, .int .i64 c], 50)] (y2.alloc (.cells #[.string X, .int .u8 (f : Int), .int .i64 L, .int .i64 c] 50))) := (K1.out.below h2).new _ _; clear d0 d1 d2 d3 d4 d5 h2; have g0 := (K3.out.bx 0 _ _ _ rfl).c 0 (.int .u8 r.k) rfl; have g1 := (K3.out.bx 0 _ _ _ rfl).c 1 (.string r.n) rfl; have g2 := (K3.out.bx 0 _ _ _ rfl).c 2 (.int .i64 r.a) rfl; have g3 := (K3.out.bx 0 _ _ _ rfl).c 3 (.string r.l) rfl; have g4 := (K3.out.bx 0 _ _ _ rfl).c 4 (.int .u8 r.p) rfl; have g5 := (K3.out.bx 0 _ _ _ rfl).c 5 (.slice r.sp r.m r.cap) rfl; have q1 := (K3.out.bx 1 _ _ _ rfl).c 1 (.int .u8 (f : Int)) rfl; have q2 := (K3.out.bx 1 _ _ _ rfl).c 2 (.int .i64 L) rfl) | (go_at_call 75; refine (hM _ hf1 hf6).mono ?_; rintro e y4 ⟨rfl, rfl⟩))
        go_ret
        exact ⟨bool_ret (by rw [fin.out]; rfl), K3.out.low⟩
    · have p0 : (r.p == 0) = false := by rw [beq_eq_false_iff_ne]; exact hp
      have hN := fun v => risname_any r.l v
      have fin : Hid (R = (isNm r.l && (decide (r.a = 0) && (if f = 4 then decide (r.p = 2 ∨ r.p = 3) else if f = 5 ∨ f = 6 then decide (r.p = 1) else false)))) := by
        show _ = _
        rw [← hR.out]
        unfold codeF
        rw [decide_eq_true hm, if_neg hp, Bool.true_and]
      generalize isNm r.l = b1 at hN fin
      by_cases ha : r.a = 0
      · have a0 : (r.a != 0) = false := by rw [bne_eq_false_iff_eq]; exact ha
        rw [decide_eq_true ha, Bool.true_and] at fin
        clear hR hm hp ha
        obtain ⟨v1, q1'⟩ : ∃ b, (r.p == 1) = b := ⟨_, rfl⟩
        obtain ⟨v2, q2'⟩ : ∃ b, (r.p == 2) = b := ⟨_, rfl⟩
        obtain ⟨v3, q3'⟩ : ∃ b, (r.p == 3) = b := ⟨_, rfl⟩
        have fin2 : Hid (R = (b1 && (if f = 4 then (v2 || v3) else if f = 5 ∨ f = 6 then v1 else false))) := by
          show _ = _
          rw [fin.out, ← q1', ← q2', ← q3']
          congr 1
          split
          · rw [Bool.eq_iff_iff]; simp
          · split
            · rw [Bool.eq_iff_iff]; simp
            · rfl
        clear fin
        cases b1
        · go_enter Tryd.func45, Tryd.ntmps45
          go_wp2_with (first | ((with_reducible refine gen_world (w.alloc (.cells (i6 r) 35)) (Fm w [(w.heap.size, i6 r, 35)]) hB.out ?_); intro y K1; have d0 := (K1.out.bx 0 _ _ _ rfl).c 0 (.int .u8 r.k) rfl; have d1 := (K1.out.bx 0 _ _ _ rfl).c 1 (.string r.n) rfl; have d2 := (K1.out.bx 0 _ _ _ rfl).c 2 (.int .i64 r.a) rfl; have d3 := (K1.out.bx 0 _ _ _ rfl).c 3 (.string r.l) rfl; have d4 := (K1.out.bx 0 _ _ _ rfl).c 4 (.int .u8 r.p) rfl; have d5 := (K1.out.bx 0 _ _ _ rfl).c 5 (.slice r.sp r.m r.cap) rfl) | (go_at_call 29; refine (hf y).mono ?_; rintro e y2 ⟨rfl, h2⟩; have K3 : Hid (Fm w [(w.heap.size, i6 r, 35), (y2.heap.size, #[.string X, .int .u8 (f : Int), .int .i64 L, .int .i64 c], 50)] (y2.alloc (.cells #[.string X, .int .u8 (f : Int), .int .i64 L, .int .i64 c] 50))) := (K1.out.below h2).new _ _; clear d0 d1 d2 d3 d4 d5 h2; have g0 := (K3.out.bx 0 _ _ _ rfl).c 0 (.int .u8 r.k) rfl; have g1 := (K3.out.bx 0 _ _ _ rfl).c 1 (.string r.n) rfl; have g2 := (K3.out.bx 0 _ _ _ rfl).c 2 (.int .i64 r.a) rfl; have g3 := (K3.out.bx 0 _ _ _ rfl).c 3 (.string r.l) rfl; have g4 := (K3.out.bx 0 _ _ _ rfl).c 4 (.int .u8 r.p) rfl; have g5 := (K3.out.bx 0 _ _ _ rfl).c 5 (.slice r.sp r.m r.cap) rfl; have q1 := (K3.out.bx 1 _ _ _ rfl).c 1 (.int .u8 (f : Int)) rfl; have q2 := (K3.out.bx 1 _ _ _ rfl).c 2 (.int .i64 L) rfl) | (go_at_call 46; refine (hN _).mono ?_; rintro e y4 ⟨rfl, rfl⟩))
          go_ret
          exact ⟨bool_ret (by rw [fin2.out]; rfl), K3.out.low⟩
        · rcases (show f = 4 ∨ f = 5 ∨ f = 6 ∨ (¬ f = 4 ∧ ¬ f = 5 ∧ ¬ f = 6) by omega) with hc | hc | hc | hc
          · have f4 : ((f : Int) == 4) = true := by rw [beq_iff_eq]; omega
            have fin3 : Hid (R = (v2 || v3)) := by show _ = _; rw [fin2.out]; rw [if_pos hc, Bool.true_and]
            clear fin2 hc
            clear q1'
            cases v2 <;> cases v3
            all_goals
              go_enter Tryd.func45, Tryd.ntmps45
              go_wp2_with (first | ((with_reducible refine gen_world (w.alloc (.cells (i6 r) 35)) (Fm w [(w.heap.size, i6 r, 35)]) hB.out ?_); intro y K1; have d0 := (K1.out.bx 0 _ _ _ rfl).c 0 (.int .u8 r.k) rfl; have d1 := (K1.out.bx 0 _ _ _ rfl).c 1 (.string r.n) rfl; have d2 := (K1.out.bx 0 _ _ _ rfl).c 2 (.int .i64 r.a) rfl; have d3 := (K1.out.bx 0 _ _ _ rfl).c 3 (.string r.l) rfl; have d4 := (K1.out.bx 0 _ _ _ rfl).c 4 (.int .u8 r.p) rfl; have d5 := (K1.out.bx 0 _ _ _ rfl).c 5 (.slice r.sp r.m r.cap) rfl) | (go_at_call 29; refine (hf y).mono ?_; rintro e y2 ⟨rfl, h2⟩; have K3 : Hid (Fm w [(w.heap.size, i6 r, 35), (y2.heap.size, #[.string X, .int .u8 (f : Int), .int .i64 L, .int .i64 c], 50)] (y2.alloc (.cells #[.string X, .int .u8 (f : Int), .int .i64 L, .int .i64 c] 50))) := (K1.out.below h2).new _ _; clear d0 d1 d2 d3 d4 d5 h2; have g0 := (K3.out.bx 0 _ _ _ rfl).c 0 (.int .u8 r.k) rfl; have g1 := (K3.out.bx 0 _ _ _ rfl).c 1 (.string r.n) rfl; have g2 := (K3.out.bx 0 _ _ _ rfl).c 2 (.int .i64 r.a) rfl; have g3 := (K3.out.bx 0 _ _ _ rfl).c 3 (.string r.l) rfl; have g4 := (K3.out.bx 0 _ _ _ rfl).c 4 (.int .u8 r.p) rfl; have g5 := (K3.out.bx 0 _ _ _ rfl).c 5 (.slice r.sp r.m r.cap) rfl; have q1 := (K3.out.bx 1 _ _ _ rfl).c 1 (.int .u8 (f : Int)) rfl; have q2 := (K3.out.bx 1 _ _ _ rfl).c 2 (.int .i64 L) rfl) | (go_at_call 46; refine (hN _).mono ?_; rintro e y4 ⟨rfl, rfl⟩))
              go_ret
              exact ⟨bool_ret (by rw [fin3.out]; try rfl), K3.out.low⟩
          · have f4 : ((f : Int) == 4) = false := by rw [beq_eq_false_iff_ne]; omega
            have f5 : ((f : Int) == 5) = true := by rw [beq_iff_eq]; omega
            have fin3 : Hid (R = v1) := by show _ = _; rw [fin2.out]; rw [if_neg (by omega), if_pos (.inl hc), Bool.true_and]
            clear fin2 hc
            clear q2' q3'
            cases v1
            all_goals
              go_enter Tryd.func45, Tryd.ntmps45
              go_wp2_with (first | ((with_reducible refine gen_world (w.alloc (.cells (i6 r) 35)) (Fm w [(w.heap.size, i6 r, 35)]) hB.out ?_); intro y K1; have d0 := (K1.out.bx 0 _ _ _ rfl).c 0 (.int .u8 r.k) rfl; have d1 := (K1.out.bx 0 _ _ _ rfl).c 1 (.string r.n) rfl; have d2 := (K1.out.bx 0 _ _ _ rfl).c 2 (.int .i64 r.a) rfl; have d3 := (K1.out.bx 0 _ _ _ rfl).c 3 (.string r.l) rfl; have d4 := (K1.out.bx 0 _ _ _ rfl).c 4 (.int .u8 r.p) rfl; have d5 := (K1.out.bx 0 _ _ _ rfl).c 5 (.slice r.sp r.m r.cap) rfl) | (go_at_call 29; refine (hf y).mono ?_; rintro e y2 ⟨rfl, h2⟩; have K3 : Hid (Fm w [(w.heap.size, i6 r, 35), (y2.heap.size, #[.string X, .int .u8 (f : Int), .int .i64 L, .int .i64 c], 50)] (y2.alloc (.cells #[.string X, .int .u8 (f : Int), .int .i64 L, .int .i64 c] 50))) := (K1.out.below h2).new _ _; clear d0 d1 d2 d3 d4 d5 h2; have g0 := (K3.out.bx 0 _ _ _ rfl).c 0 (.int .u8 r.k) rfl; have g1 := (K3.out.bx 0 _ _ _ rfl).c 1 (.string r.n) rfl; have g2 := (K3.out.bx 0 _ _ _ rfl).c 2 (.int .i64 r.a) rfl; have g3 := (K3.out.bx 0 _ _ _ rfl).c 3 (.string r.l) rfl; have g4 := (K3.out.bx 0 _ _ _ rfl).c 4 (.int .u8 r.p) rfl; have g5 := (K3.out.bx 0 _ _ _ rfl).c 5 (.slice r.sp r.m r.cap) rfl; have q1 := (K3.out.bx 1 _ _ _ rfl).c 1 (.int .u8 (f : Int)) rfl; have q2 := (K3.out.bx 1 _ _ _ rfl).c 2 (.int .i64 L) rfl) | (go_at_call 46; refine (hN _).mono ?_; rintro e y4 ⟨rfl, rfl⟩))
              go_ret
              exact ⟨bool_ret (by rw [fin3.out]; try rfl), K3.out.low⟩
          · have f4 : ((f : Int) == 4) = false := by rw [beq_eq_false_iff_ne]; omega
            have f5 : ((f : Int) == 5) = false := by rw [beq_eq_false_iff_ne]; omega
            have f6 : ((f : Int) == 6) = true := by rw [beq_iff_eq]; omega
            have fin3 : Hid (R = v1) := by show _ = _; rw [fin2.out]; rw [if_neg (by omega), if_pos (.inr hc), Bool.true_and]
            clear fin2 hc
            clear q2' q3'
            cases v1
            all_goals
              go_enter Tryd.func45, Tryd.ntmps45
              go_wp2_with (first | ((with_reducible refine gen_world (w.alloc (.cells (i6 r) 35)) (Fm w [(w.heap.size, i6 r, 35)]) hB.out ?_); intro y K1; have d0 := (K1.out.bx 0 _ _ _ rfl).c 0 (.int .u8 r.k) rfl; have d1 := (K1.out.bx 0 _ _ _ rfl).c 1 (.string r.n) rfl; have d2 := (K1.out.bx 0 _ _ _ rfl).c 2 (.int .i64 r.a) rfl; have d3 := (K1.out.bx 0 _ _ _ rfl).c 3 (.string r.l) rfl; have d4 := (K1.out.bx 0 _ _ _ rfl).c 4 (.int .u8 r.p) rfl; have d5 := (K1.out.bx 0 _ _ _ rfl).c 5 (.slice r.sp r.m r.cap) rfl) | (go_at_call 29; refine (hf y).mono ?_; rintro e y2 ⟨rfl, h2⟩; have K3 : Hid (Fm w [(w.heap.size, i6 r, 35), (y2.heap.size, #[.string X, .int .u8 (f : Int), .int .i64 L, .int .i64 c], 50)] (y2.alloc (.cells #[.string X, .int .u8 (f : Int), .int .i64 L, .int .i64 c] 50))) := (K1.out.below h2).new _ _; clear d0 d1 d2 d3 d4 d5 h2; have g0 := (K3.out.bx 0 _ _ _ rfl).c 0 (.int .u8 r.k) rfl; have g1 := (K3.out.bx 0 _ _ _ rfl).c 1 (.string r.n) rfl; have g2 := (K3.out.bx 0 _ _ _ rfl).c 2 (.int .i64 r.a) rfl; have g3 := (K3.out.bx 0 _ _ _ rfl).c 3 (.string r.l) rfl; have g4 := (K3.out.bx 0 _ _ _ rfl).c 4 (.int .u8 r.p) rfl; have g5 := (K3.out.bx 0 _ _ _ rfl).c 5 (.slice r.sp r.m r.cap) rfl; have q1 := (K3.out.bx 1 _ _ _ rfl).c 1 (.int .u8 (f : Int)) rfl; have q2 := (K3.out.bx 1 _ _ _ rfl).c 2 (.int .i64 L) rfl) | (go_at_call 46; refine (hN _).mono ?_; rintro e y4 ⟨rfl, rfl⟩))
              go_ret
              exact ⟨bool_ret (by rw [fin3.out]; try rfl), K3.out.low⟩
          · have f4 : ((f : Int) == 4) = false := by rw [beq_eq_false_iff_ne]; omega
            have f5 : ((f : Int) == 5) = false := by rw [beq_eq_false_iff_ne]; omega
            have f6 : ((f : Int) == 6) = false := by rw [beq_eq_false_iff_ne]; omega
            have fin3 : Hid (R = false) := by show _ = _; rw [fin2.out]; rw [if_neg hc.1, if_neg (by omega), Bool.true_and]
            clear fin2 hc
            clear q1' q2' q3'
            all_goals
              go_enter Tryd.func45, Tryd.ntmps45
              go_wp2_with (first | ((with_reducible refine gen_world (w.alloc (.cells (i6 r) 35)) (Fm w [(w.heap.size, i6 r, 35)]) hB.out ?_); intro y K1; have d0 := (K1.out.bx 0 _ _ _ rfl).c 0 (.int .u8 r.k) rfl; have d1 := (K1.out.bx 0 _ _ _ rfl).c 1 (.string r.n) rfl; have d2 := (K1.out.bx 0 _ _ _ rfl).c 2 (.int .i64 r.a) rfl; have d3 := (K1.out.bx 0 _ _ _ rfl).c 3 (.string r.l) rfl; have d4 := (K1.out.bx 0 _ _ _ rfl).c 4 (.int .u8 r.p) rfl; have d5 := (K1.out.bx 0 _ _ _ rfl).c 5 (.slice r.sp r.m r.cap) rfl) | (go_at_call 29; refine (hf y).mono ?_; rintro e y2 ⟨rfl, h2⟩; have K3 : Hid (Fm w [(w.heap.size, i6 r, 35), (y2.heap.size, #[.string X, .int .u8 (f : Int), .int .i64 L, .int .i64 c], 50)] (y2.alloc (.cells #[.string X, .int .u8 (f : Int), .int .i64 L, .int .i64 c] 50))) := (K1.out.below h2).new _ _; clear d0 d1 d2 d3 d4 d5 h2; have g0 := (K3.out.bx 0 _ _ _ rfl).c 0 (.int .u8 r.k) rfl; have g1 := (K3.out.bx 0 _ _ _ rfl).c 1 (.string r.n) rfl; have g2 := (K3.out.bx 0 _ _ _ rfl).c 2 (.int .i64 r.a) rfl; have g3 := (K3.out.bx 0 _ _ _ rfl).c 3 (.string r.l) rfl; have g4 := (K3.out.bx 0 _ _ _ rfl).c 4 (.int .u8 r.p) rfl; have g5 := (K3.out.bx 0 _ _ _ rfl).c 5 (.slice r.sp r.m r.cap) rfl; have q1 := (K3.out.bx 1 _ _ _ rfl).c 1 (.int .u8 (f : Int)) rfl; have q2 := (K3.out.bx 1 _ _ _ rfl).c 2 (.int .i64 L) rfl) | (go_at_call 46; refine (hN _).mono ?_; rintro e y4 ⟨rfl, rfl⟩))
              go_ret
              exact ⟨bool_ret (by rw [fin3.out]; try rfl), K3.out.low⟩
      · have a0 : (r.a != 0) = true := by rw [bne_iff_ne]; exact ha
        rw [decide_eq_false ha, Bool.false_and, Bool.and_false] at fin
        clear hR hm hp ha
        cases b1
        all_goals
          go_enter Tryd.func45, Tryd.ntmps45
          go_wp2_with (first | ((with_reducible refine gen_world (w.alloc (.cells (i6 r) 35)) (Fm w [(w.heap.size, i6 r, 35)]) hB.out ?_); intro y K1; have d0 := (K1.out.bx 0 _ _ _ rfl).c 0 (.int .u8 r.k) rfl; have d1 := (K1.out.bx 0 _ _ _ rfl).c 1 (.string r.n) rfl; have d2 := (K1.out.bx 0 _ _ _ rfl).c 2 (.int .i64 r.a) rfl; have d3 := (K1.out.bx 0 _ _ _ rfl).c 3 (.string r.l) rfl; have d4 := (K1.out.bx 0 _ _ _ rfl).c 4 (.int .u8 r.p) rfl; have d5 := (K1.out.bx 0 _ _ _ rfl).c 5 (.slice r.sp r.m r.cap) rfl) | (go_at_call 29; refine (hf y).mono ?_; rintro e y2 ⟨rfl, h2⟩; have K3 : Hid (Fm w [(w.heap.size, i6 r, 35), (y2.heap.size, #[.string X, .int .u8 (f : Int), .int .i64 L, .int .i64 c], 50)] (y2.alloc (.cells #[.string X, .int .u8 (f : Int), .int .i64 L, .int .i64 c] 50))) := (K1.out.below h2).new _ _; clear d0 d1 d2 d3 d4 d5 h2; have g0 := (K3.out.bx 0 _ _ _ rfl).c 0 (.int .u8 r.k) rfl; have g1 := (K3.out.bx 0 _ _ _ rfl).c 1 (.string r.n) rfl; have g2 := (K3.out.bx 0 _ _ _ rfl).c 2 (.int .i64 r.a) rfl; have g3 := (K3.out.bx 0 _ _ _ rfl).c 3 (.string r.l) rfl; have g4 := (K3.out.bx 0 _ _ _ rfl).c 4 (.int .u8 r.p) rfl; have g5 := (K3.out.bx 0 _ _ _ rfl).c 5 (.slice r.sp r.m r.cap) rfl; have q1 := (K3.out.bx 1 _ _ _ rfl).c 1 (.int .u8 (f : Int)) rfl; have q2 := (K3.out.bx 1 _ _ _ rfl).c 2 (.int .i64 L) rfl) | (go_at_call 46; refine (hN _).mono ?_; rintro e y4 ⟨rfl, rfl⟩))
          go_ret
          exact ⟨bool_ret (by rw [fin.out]), K3.out.low⟩
  · have m0 : ((r.m : Int) != 0) = true := by rw [bne_iff_ne]; omega
    have fin : Hid (R = false) := by
      show _ = _
      rw [← hR.out]
      unfold codeF
      rw [decide_eq_false hm, Bool.false_and]
    clear hm hR
    go_enter Tryd.func45, Tryd.ntmps45
    go_wp2_with (first | ((with_reducible refine gen_world (w.alloc (.cells (i6 r) 35)) (Fm w [(w.heap.size, i6 r, 35)]) hB.out ?_); intro y K1; have d0 := (K1.out.bx 0 _ _ _ rfl).c 0 (.int .u8 r.k) rfl; have d1 := (K1.out.bx 0 _ _ _ rfl).c 1 (.string r.n) rfl; have d2 := (K1.out.bx 0 _ _ _ rfl).c 2 (.int .i64 r.a) rfl; have d3 := (K1.out.bx 0 _ _ _ rfl).c 3 (.string r.l) rfl; have d4 := (K1.out.bx 0 _ _ _ rfl).c 4 (.int .u8 r.p) rfl; have d5 := (K1.out.bx 0 _ _ _ rfl).c 5 (.slice r.sp r.m r.cap) rfl) | (go_at_call 29; refine (hf y).mono ?_; rintro e y2 ⟨rfl, h2⟩; have K3 : Hid (Fm w [(w.heap.size, i6 r, 35), (y2.heap.size, #[.string X, .int .u8 (f : Int), .int .i64 L, .int .i64 c], 50)] (y2.alloc (.cells #[.string X, .int .u8 (f : Int), .int .i64 L, .int .i64 c] 50))) := (K1.out.below h2).new _ _; clear d0 d1 d2 d3 d4 d5 h2; have g0 := (K3.out.bx 0 _ _ _ rfl).c 0 (.int .u8 r.k) rfl; have g1 := (K3.out.bx 0 _ _ _ rfl).c 1 (.string r.n) rfl; have g2 := (K3.out.bx 0 _ _ _ rfl).c 2 (.int .i64 r.a) rfl; have g3 := (K3.out.bx 0 _ _ _ rfl).c 3 (.string r.l) rfl; have g4 := (K3.out.bx 0 _ _ _ rfl).c 4 (.int .u8 r.p) rfl; have g5 := (K3.out.bx 0 _ _ _ rfl).c 5 (.slice r.sp r.m r.cap) rfl; have q1 := (K3.out.bx 1 _ _ _ rfl).c 1 (.int .u8 (f : Int)) rfl; have q2 := (K3.out.bx 1 _ _ _ rfl).c 2 (.int .i64 L) rfl))
    go_ret
    exact ⟨bool_ret (by rw [fin.out]), K3.out.low⟩

theorem code_none (w : World) (r : Ri) (ho : Hid (opOf r.n = none)) : Calls Tryd.prog 45 #[.agg (i6 r)] w fun e w' => e = .returned (.bool false) ∧ Below w.heap.size w w' := by
  have hB : Hid (Fm w [(w.heap.size, i6 r, 35)] (w.alloc (.cells (i6 r) 35))) := Fm.one w _ _
  have hf : ∀ w : World, Calls Tryd.prog 29 #[.string r.n] w fun e w' => e = .returned (.tuple #[.agg #[.string ⟨#[]⟩, .int .u8 0, .int .i64 0, .int .i64 0], .bool false]) ∧ Below w.heap.size w w' := fun w => rfind_none r.n ho w
  go_enter Tryd.func45, Tryd.ntmps45
  go_wp2_with (first | ((with_reducible refine gen_world (w.alloc (.cells (i6 r) 35)) (Fm w [(w.heap.size, i6 r, 35)]) hB.out ?_); intro y K1; have d0 := (K1.out.bx 0 _ _ _ rfl).c 0 (.int .u8 r.k) rfl; have d1 := (K1.out.bx 0 _ _ _ rfl).c 1 (.string r.n) rfl; have d2 := (K1.out.bx 0 _ _ _ rfl).c 2 (.int .i64 r.a) rfl; have d3 := (K1.out.bx 0 _ _ _ rfl).c 3 (.string r.l) rfl; have d4 := (K1.out.bx 0 _ _ _ rfl).c 4 (.int .u8 r.p) rfl; have d5 := (K1.out.bx 0 _ _ _ rfl).c 5 (.slice r.sp r.m r.cap) rfl) | (go_at_call 29; refine (hf y).mono ?_; rintro e y2 ⟨rfl, h2⟩; have K3 : Hid (Below w.heap.size w (y2.alloc (.cells #[.string ⟨#[]⟩, .int .u8 0, .int .i64 0, .int .i64 0] 50))) := ((K1.out.below h2).new _ _).low; clear d0 d1 d2 d3 d4 d5 h2))
  go_ret
  exact ⟨rfl, K3.out⟩
theorem rcode_any (w : World) (r : Ri) : Calls Tryd.prog 45 #[.agg (i6 r)] w fun e w' => e = .returned (.bool (codeI r)) ∧ Below w.heap.size w w' := by
  unfold codeI
  rcases ho : opOf r.n with _ | n
  · exact code_none w r ho
  · have hn := (opOf_lt ho).1
    obtain ⟨X, L, c, hf, _⟩ := rfind_form r.n n ho
    exact code_find w r (fm n) (fm_le n hn).1 (fm_le n hn).2 X L c hf
end Go.Proofs.YtfdjifgmlgpjgaaDoor
