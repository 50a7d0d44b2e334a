/- Which items may be: the program's. -/
import Derived.Test.YtfdjifgmlgpjgaaDoorNa
import Derived.Test.YtfdjifgmlgpjgaaDoorId
import Derived.Test.YtfdjifgmlgpjgaaDoorOLines
namespace Go.Proofs.YtfdjifgmlgpjgaaDoor
open Go Go.RowKit
set_option linter.unusedVariables false
set_option maxHeartbeats 3000000
set_option maxRecDepth 20000

def lowC (n : Nat) : Nat := if fm n = 2 then (if nmB n = [76, 68, 78] then 1 else 0) else if fm n = 3 then 1 else 0
def highC (f : Nat) : Nat := if f = 2 then 15 else if f = 3 then 7 else if f = 4 ∨ f = 5 then 255 else if f = 6 then 65535 else 0
theorem lowC_tab (n : Nat) (h : n < 256) : bs n = n → held n (fm n) = lowC n := by revert n; decide +kernel
theorem highC_tab (n : Nat) (h : n < 256) : lay (fm n * 3 + 2) = highC (fm n) := by revert n; decide +kernel
theorem lowC_name (n : Nat) : (nm n = ⟨#[76, 68, 78]⟩) ↔ nmB n = [76, 68, 78] := by
  rw [nm_eq]
  constructor
  · intro h
    have := congrArg (fun s => s.data.toList) h
    simpa using this
  · intro h; rw [h]
theorem opOf_bsC {S : ByteArray} {n : Nat} (h : opOf S = some n) : bs n = n := by
  have h1 := opOf_lt h
  have h2 := opOf_nm n h1.1
  rw [h1.2, h] at h2
  injection h2 with h2
  exact h2.symm
theorem codeC_may {S : ByteArray} {n : Nat} {A : Int} (ho : opOf S = some n) : (lowI S (fm n) ≤ A ∧ A ≤ highI (fm n)) ↔ may n A := by
  obtain ⟨h1, h2⟩ := opOf_lt ho
  have e1 : lowI S (fm n) = (held n (fm n) : Nat) := by
    rw [lowC_tab n h1 (opOf_bsC ho)]
    unfold lowI lowC
    rw [← h2]
    split
    · by_cases h3 : nmB n = [76, 68, 78]
      · rw [if_pos h3, if_pos ((lowC_name n).2 h3)]; rfl
      · rw [if_neg h3, if_neg (fun h => h3 ((lowC_name n).1 h))]; rfl
    · split <;> rfl
  have e2 : highI (fm n) = (lay (fm n * 3 + 2) : Nat) := by
    rw [highC_tab n h1]
    unfold highI highC
    repeat' split
    all_goals rfl
  unfold may
  rw [e1, e2]
/-- Encode's error. -/
def encE (S : ByteArray) (A : Int) : Int := match opOf S with
  | none => 20
  | some n => if mayB n A then 0 else 21
theorem enc_any (S : ByteArray) (A : Int) (w : World) (T : Tabs w) : Calls Tryd.prog 73 #[.agg #[.string S, .int .i64 A]] w fun e w' => ∃ X, e = .returned (.tuple #[X, .int .i64 (encE S A)]) ∧ Below w.heap.size w w' := by
  unfold encE
  rcases ho : opOf S with _ | n
  · refine (enc_name S A ho w T).mono ?_
    rintro e w' ⟨rfl, h⟩
    exact ⟨_, rfl, h⟩
  · by_cases hm : may n A
    · refine (enc_good S A n ho hm w T).mono ?_
      rintro e w' ⟨b, _, rfl, _, h⟩
      refine ⟨.slice (some ⟨b, 0, none⟩) (encB n A).length (encB n A).length, ?_, h⟩
      show _ = Ending.returned (.tuple #[.slice (some ⟨b, 0, none⟩) (encB n A).length (encB n A).length, .int .i64 (if mayB n A then 0 else 21)])
      rw [if_pos ((mayB_iff n A).2 hm)]
    · refine (enc_bad S A n ho hm w T).mono ?_
      rintro e w' ⟨rfl, h⟩
      refine ⟨.slice none 0 0, ?_, h⟩
      show _ = Ending.returned (.tuple #[.slice none 0 0, .int .i64 (if mayB n A then 0 else 21)])
      rw [if_neg (fun h => hm ((mayB_iff n A).1 h))]
/-- An instruction's name, operand and label. -/
def codeM (r : Ri) : Bool := if r.p = 0 then decide (encE r.n r.a = 0) && decide (r.l.size = 0) else match opOf r.n with
  | none => false
  | some n => takesB (fm n) r.p && (isNm r.l && decide (r.a = 0))
theorem codeI_is (r : Ri) : codeI r = (codeM r && decide (r.m = 0)) := by
  unfold codeI codeM
  rcases ho : opOf r.n with _ | n
  · simp only
    split
    · unfold encE; rw [ho]; rfl
    · rfl
  · show codeF (fm n) r = _
    unfold codeF
    by_cases hp : r.p = 0
    · rw [if_pos hp, if_pos hp]
      have e : decide (encE r.n r.a = 0) = (decide (lowI r.n (fm n) ≤ r.a) && decide (r.a ≤ highI (fm n))) := by
        rw [Bool.eq_iff_iff, Bool.and_eq_true, decide_eq_true_iff, decide_eq_true_iff, decide_eq_true_iff, codeC_may ho]
        unfold encE
        rw [ho]
        show (if mayB n r.a = true then (0 : Int) else 21) = 0 ↔ _
        by_cases h : mayB n r.a = true
        · rw [if_pos h]; exact ⟨fun _ => (mayB_iff n r.a).1 h, fun _ => rfl⟩
        · rw [if_neg h]; exact ⟨fun h' => (by cases h'), fun h' => absurd ((mayB_iff n r.a).2 h') h⟩
      rw [e]
      generalize decide (r.m = 0) = a1
      generalize decide (r.l.size = 0) = a2
      generalize decide (lowI r.n (fm n) ≤ r.a) = a3
      generalize decide (r.a ≤ highI (fm n)) = a4
      revert a1 a2 a3 a4
      decide
    · rw [if_neg hp, if_neg hp]
      have e : takesB (fm n) r.p = (if fm n = 4 then decide (r.p = 2 ∨ r.p = 3) else if fm n = 5 ∨ fm n = 6 then decide (r.p = 1) else false) := by
        unfold takesB
        by_cases f4 : fm n = 4
        · rw [if_pos (by omega), if_pos f4]
        · rw [if_neg (by omega), if_neg f4]
          by_cases f5 : fm n = 5 ∨ fm n = 6
          · rw [if_pos (by omega), if_pos f5]
          · rw [if_neg (by omega), if_neg f5]
      show _ = ((takesB (fm n) r.p && (isNm r.l && decide (r.a = 0))) && decide (r.m = 0))
      rw [← e]
      generalize decide (r.m = 0) = a1
      generalize isNm r.l = a2
      generalize decide (r.a = 0) = a3
      generalize takesB (fm n) r.p = a4
      revert a1 a2 a3 a4
      decide
theorem and3 (b1 b2 b3 : Bool) : b1 = false ∨ (b1 = true ∧ b2 = false) ∨ (b1 = true ∧ b2 = true ∧ b3 = false) ∨ (b1 = true ∧ b2 = true ∧ b3 = true) := by revert b1 b2 b3; decide
theorem code_may (w : World) (r : Ri) (T : Hid (Tabs w)) : Calls Tryd.prog 43 #[.agg (i6 r)] w fun e w' => e = .returned (.bool (codeM r)) ∧ Below w.heap.size w w' := by
  have hB : Hid (Fm w [(w.heap.size, i6 r, 35)] (w.alloc (.cells (i6 r) 35))) := Fm.one w _ _
  have fin : Hid (codeM r = codeM r) := (rfl : codeM r = codeM r)
  obtain ⟨R, hR⟩ : ∃ R, Hid (codeM r = R) := ⟨_, (rfl : codeM r = codeM r)⟩
  rw [hR.out]
  clear fin
  by_cases hp : r.p = 0
  · have p0 : (r.p == 0) = true := by rw [beq_iff_eq]; exact hp
    have hE := fun v T => enc_any r.n r.a v T
    have e0 : (encE r.n r.a == 0) = decide (encE r.n r.a = 0) := by rw [Bool.eq_iff_iff]; simp
    have q3 := emp_is r.l
    have fin : Hid (R = (decide (encE r.n r.a = 0) && decide (r.l.size = 0))) := by
      show _ = _
      rw [← hR.out]
      unfold codeM
      rw [if_pos hp]
    generalize decide (encE r.n r.a = 0) = b1 at e0 fin
    generalize decide (r.l.size = 0) = b2 at q3 fin
    generalize encE r.n r.a = E at hE e0
    clear hp hR
    cases b1
    all_goals
      go_enter Tryd.func43, Tryd.ntmps43
      go_wp2_with (first
        | ((with_reducible refine gen_world (w.alloc (.cells (i6 r) 35)) (Fm w [(w.heap.size, i6 r, 35)]) hB.out ?_); intro y K1; have d0 := (K1.out.bx 0 _ _ _ rfl).c 0 (.int .u8 r.k) rfl; have d1 := (K1.out.bx 0 _ _ _ rfl).c 1 (.string r.n) rfl; have d2 := (K1.out.bx 0 _ _ _ rfl).c 2 (.int .i64 r.a) rfl; have d3 := (K1.out.bx 0 _ _ _ rfl).c 3 (.string r.l) rfl; have d4 := (K1.out.bx 0 _ _ _ rfl).c 4 (.int .u8 r.p) rfl; have d5 := (K1.out.bx 0 _ _ _ rfl).c 5 (.slice r.sp r.m r.cap) rfl)
        | (go_at_call 73; refine (hE y (T.out.below K1.out.low)).mono ?_; rintro e y2 ⟨X, rfl, h2⟩; have K2 : Hid (Fm w [(w.heap.size, i6 r, 35)] y2) := K1.out.below h2; clear d0 d1 d2 d3 d4 d5 h2; have g3 := (K2.out.bx 0 _ _ _ rfl).c 3 (.string r.l) rfl))
      go_ret
      exact ⟨bool_ret (by rw [fin.out]; rfl), K2.out.low⟩
  · have p0 : (r.p == 0) = false := by rw [beq_eq_false_iff_ne]; exact hp
    rcases ho : opOf r.n with _ | n
    · have fin : Hid (R = false) := by
        show _ = _
        rw [← hR.out]
        unfold codeM
        rw [if_neg hp, ho]
      have hF := fun v T => find_none r.n ho v T
      clear hp hR ho
      unfold info0 at hF
      go_enter Tryd.func43, Tryd.ntmps43
      go_wp2_with (first
        | ((with_reducible refine gen_world (w.alloc (.cells (i6 r) 35)) (Fm w [(w.heap.size, i6 r, 35)]) hB.out ?_); intro y K1; have d1 := (K1.out.bx 0 _ _ _ rfl).c 1 (.string r.n) rfl; have d4 := (K1.out.bx 0 _ _ _ rfl).c 4 (.int .u8 r.p) rfl)
        | (go_at_call 28; refine (hF y (T.out.below K1.out.low)).mono ?_; rintro e y2 ⟨rfl, h2⟩; have K2 : Hid (Fm w [(w.heap.size, i6 r, 35), (y2.heap.size, #[.string ⟨#[]⟩, .int .u8 0, .int .i64 0, .int .i64 0], 50)] (y2.alloc (.cells #[.string ⟨#[]⟩, .int .u8 0, .int .i64 0, .int .i64 0] 50))) := (K1.out.below h2).new _ _; clear d1 d4 h2))
      go_ret
      exact ⟨bool_ret fin.out.symm, K2.out.low⟩
    · have fin : Hid (R = (takesB (fm n) r.p && (isNm r.l && decide (r.a = 0)))) := by
        show _ = _
        rw [← hR.out]
        unfold codeM
        rw [if_neg hp, ho]
      have hF := fun v T => find_some r.n n ho (nm n) (fm n) (lay (fm n * 3)) (cyc n) rfl rfl rfl rfl v T
      have hT := fun v => takes_any (fm n) r.p v
      have hN := fun v => pisname_any r.l v
      have e2 : (r.a == 0) = decide (r.a = 0) := by rw [Bool.eq_iff_iff]; simp
      generalize takesB (fm n) r.p = b1 at hT fin
      generalize isNm r.l = b2 at hN fin
      generalize decide (r.a = 0) = b3 at e2 fin
      generalize ((fm n : Nat) : Int) = f at hT hF
      generalize ((lay (fm n * 3) : Nat) : Int) = L at hF
      generalize ((cyc n : Nat) : Int) = c at hF
      generalize nm n = X at hF
      clear hp hR ho
      rcases and3 b1 b2 b3 with rfl | ⟨rfl, rfl⟩ | ⟨rfl, rfl, rfl⟩ | ⟨rfl, rfl, rfl⟩
      all_goals
        go_enter Tryd.func43, Tryd.ntmps43
        go_wp2_with (first
        | ((with_reducible refine gen_world (w.alloc (.cells (i6 r) 35)) (Fm w [(w.heap.size, i6 r, 35)]) hB.out ?_); intro y K1; have d1 := (K1.out.bx 0 _ _ _ rfl).c 1 (.string r.n) rfl; have d4 := (K1.out.bx 0 _ _ _ rfl).c 4 (.int .u8 r.p) rfl)
          | (go_at_call 28; refine (hF y (T.out.below K1.out.low)).mono ?_; rintro e y2 ⟨rfl, h2⟩; have K2 : Hid (Fm w [(w.heap.size, i6 r, 35), (y2.heap.size, #[.string X, .int .u8 f, .int .i64 L, .int .i64 c], 50)] (y2.alloc (.cells #[.string X, .int .u8 f, .int .i64 L, .int .i64 c] 50))) := (K1.out.below h2).new _ _; clear d1 d4 h2; have g2 := (K2.out.bx 0 _ _ _ rfl).c 2 (.int .i64 r.a) rfl; have g3 := (K2.out.bx 0 _ _ _ rfl).c 3 (.string r.l) rfl; have g4 := (K2.out.bx 0 _ _ _ rfl).c 4 (.int .u8 r.p) rfl; have q1 := (K2.out.bx 1 _ _ _ rfl).c 1 (.int .u8 f) rfl)
          | (go_at_call 74; refine (hT _).mono ?_; rintro e y4 ⟨rfl, rfl⟩)
          | (go_at_call 42; refine (hN _).mono ?_; rintro e y5 ⟨rfl, rfl⟩))
        go_ret
        exact ⟨bool_ret (by rw [fin.out]; rfl), K2.out.low⟩
end Go.Proofs.YtfdjifgmlgpjgaaDoor
