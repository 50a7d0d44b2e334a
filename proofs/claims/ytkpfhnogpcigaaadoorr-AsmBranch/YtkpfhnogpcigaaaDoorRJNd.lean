/- How many bytes an item has; which items of a source may be: the document's Size and Check. -/
import Derived.Test.YtkpfhnogpcigaaaDoorRJNa
import Derived.Test.YtkpfhnogpcigaaaDoorRJLw
import Derived.Test.YtkpfhnogpcigaaaDoorRJORefC
namespace Go.Proofs.YtkpfhnogpcigaaaDoorR
open Go Go.RowKit
set_option linter.unusedVariables false
set_option maxHeartbeats 3000000
set_option maxRecDepth 20000

def sizeI (r : Ri) : Int := if mayI r then (if r.k = 2 then (match opOf r.n with | some n => ((lay (fm n * 3) : Nat) : Int) | none => 0) else if r.k = 3 then (r.m : Int) else if r.k = 5 then 2 else 0) else 0
def sizeE (r : Ri) : Int := if mayI r then 0 else 130
theorem mayI_code {r : Ri} (h : mayI r = true) (hk : r.k = 2) : ∃ n, opOf r.n = some n := by
  unfold mayI at h
  rw [if_pos hk] at h
  unfold codeI at h
  rcases e : opOf r.n with _ | n
  · rw [e] at h; cases h
  · exact ⟨n, rfl⟩
theorem tup_ret {a b c d : Int} (h : a = c) (h' : b = d) : Ending.returned (.tuple #[.int .i64 a, .int .i64 b]) = .returned (.tuple #[.int .i64 c, .int .i64 d]) := by rw [h, h']

/-- Items that lie in a row. -/
def c6 (r : Ri) : List Value := (i6 r).toList
abbrev LI (x : World) (sp : Option Addr) (l : List Ri) : Prop := LiesL 6 c6 x sp l
def badI (l : List Ri) : Option Nat := l.findIdx? fun r => !mayI r
def checkE (l : List Ri) : Int := if 4096 < l.length then 2 else if (badI l).isSome then 130 else 0
def checkN (l : List Ri) : Int := if 4096 < l.length then 0 else ((badI l).getD 0 : Nat)
theorem badI_some {l : List Ri} {j : Nat} (h : ∀ i (hi : i < l.length), i < j → mayI l[i] = true) (hj : j < l.length) (hb : mayI l[j] = false) : badI l = some j := by
  unfold badI
  rw [List.findIdx?_eq_some_iff_getElem]
  refine ⟨hj, by rw [hb]; rfl, fun i hi => ?_⟩
  rw [h i (by omega) hi]
  simp
theorem badI_none {l : List Ri} (h : ∀ i (hi : i < l.length), mayI l[i] = true) : badI l = none := by
  unfold badI
  rw [List.findIdx?_eq_none_iff]
  intro x hx
  obtain ⟨i, hi, rfl⟩ := List.getElem_of_mem hx
  rw [h i hi]
  rfl

end Go.Proofs.YtkpfhnogpcigaaaDoorR
/- Which items may be: the program's. -/
namespace Go.Proofs.YtkpfhnogpcigaaaDoorR
open Go Go.RowKit
set_option linter.unusedVariables false
set_option maxHeartbeats 3000000
set_option maxRecDepth 20000

def lowC (n : Nat) : Nat := if fm n = 2 then (if nmB n = [76, 68, 78] then 1 else 0) else if fm n = 3 then 1 else 0
def highC (f : Nat) : Nat := if f = 2 then 15 else if f = 3 then 7 else if f = 4 ∨ f = 5 then 255 else if f = 6 then 65535 else 0
theorem lowC_tab (n : Nat) (h : n < 256) : bs n = n → held n (fm n) = lowC n := by revert n; decide +kernel
theorem highC_tab (n : Nat) (h : n < 256) : lay (fm n * 3 + 2) = highC (fm n) := by revert n; decide +kernel
theorem lowC_name (n : Nat) : (nm n = ⟨#[76, 68, 78]⟩) ↔ nmB n = [76, 68, 78] := by
  rw [nm_eq]
  constructor
  · intro h
    have := congrArg (fun s => s.data.toList) h
    simpa using this
  · intro h; rw [h]
theorem opOf_bsC {S : ByteArray} {n : Nat} (h : opOf S = some n) : bs n = n := by
  have h1 := opOf_lt h
  have h2 := opOf_nm n h1.1
  rw [h1.2, h] at h2
  injection h2 with h2
  exact h2.symm
theorem codeC_may {S : ByteArray} {n : Nat} {A : Int} (ho : opOf S = some n) : (lowI S (fm n) ≤ A ∧ A ≤ highI (fm n)) ↔ may n A := by
  obtain ⟨h1, h2⟩ := opOf_lt ho
  have e1 : lowI S (fm n) = (held n (fm n) : Nat) := by
    rw [lowC_tab n h1 (opOf_bsC ho)]
    unfold lowI lowC
    rw [← h2]
    split
    · by_cases h3 : nmB n = [76, 68, 78]
      · rw [if_pos h3, if_pos ((lowC_name n).2 h3)]; rfl
      · rw [if_neg h3, if_neg (fun h => h3 ((lowC_name n).1 h))]; rfl
    · split <;> rfl
  have e2 : highI (fm n) = (lay (fm n * 3 + 2) : Nat) := by
    rw [highC_tab n h1]
    unfold highI highC
    repeat' split
    all_goals rfl
  unfold may
  rw [e1, e2]
/-- Encode's error. -/
def encE (S : ByteArray) (A : Int) : Int := match opOf S with
  | none => 20
  | some n => if mayB n A then 0 else 21
theorem enc_any (S : ByteArray) (A : Int) (w : World) (T : Tabs w) : Calls Tryd.prog 54 #[.agg #[.string S, .int .i64 A]] w fun e w' => ∃ X, e = .returned (.tuple #[X, .int .i64 (encE S A)]) ∧ Below w.heap.size w w' := by
  unfold encE
  rcases ho : opOf S with _ | n
  · refine (enc_name S A ho w T).mono ?_
    rintro e w' ⟨rfl, h⟩
    exact ⟨_, rfl, h⟩
  · by_cases hm : may n A
    · refine (enc_good S A n ho hm w T).mono ?_
      rintro e w' ⟨b, _, rfl, _, h⟩
      refine ⟨.slice (some ⟨b, 0, none⟩) (encB n A).length (encB n A).length, ?_, h⟩
      show _ = Ending.returned (.tuple #[.slice (some ⟨b, 0, none⟩) (encB n A).length (encB n A).length, .int .i64 (if mayB n A then 0 else 21)])
      rw [if_pos ((mayB_iff n A).2 hm)]
    · refine (enc_bad S A n ho hm w T).mono ?_
      rintro e w' ⟨rfl, h⟩
      refine ⟨.slice none 0 0, ?_, h⟩
      show _ = Ending.returned (.tuple #[.slice none 0 0, .int .i64 (if mayB n A then 0 else 21)])
      rw [if_neg (fun h => hm ((mayB_iff n A).1 h))]
/-- An instruction's name, operand and label. -/
def codeM (r : Ri) : Bool := if r.p = 0 then decide (encE r.n r.a = 0) && decide (r.l.size = 0) else match opOf r.n with
  | none => false
  | some n => takesB (fm n) r.p && (isNm r.l && decide (r.a = 0))
theorem codeI_is (r : Ri) : codeI r = (codeM r && decide (r.m = 0)) := by
  unfold codeI codeM
  rcases ho : opOf r.n with _ | n
  · simp only
    split
    · unfold encE; rw [ho]; rfl
    · rfl
  · show codeF (fm n) r = _
    unfold codeF
    by_cases hp : r.p = 0
    · rw [if_pos hp, if_pos hp]
      have e : decide (encE r.n r.a = 0) = (decide (lowI r.n (fm n) ≤ r.a) && decide (r.a ≤ highI (fm n))) := by
        rw [Bool.eq_iff_iff, Bool.and_eq_true, decide_eq_true_iff, decide_eq_true_iff, decide_eq_true_iff, codeC_may ho]
        unfold encE
        rw [ho]
        show (if mayB n r.a = true then (0 : Int) else 21) = 0 ↔ _
        by_cases h : mayB n r.a = true
        · rw [if_pos h]; exact ⟨fun _ => (mayB_iff n r.a).1 h, fun _ => rfl⟩
        · rw [if_neg h]; exact ⟨fun h' => (by cases h'), fun h' => absurd ((mayB_iff n r.a).2 h') h⟩
      rw [e]
      generalize decide (r.m = 0) = a1
      generalize decide (r.l.size = 0) = a2
      generalize decide (lowI r.n (fm n) ≤ r.a) = a3
      generalize decide (r.a ≤ highI (fm n)) = a4
      revert a1 a2 a3 a4
      decide
    · rw [if_neg hp, if_neg hp]
      have e : takesB (fm n) r.p = (if fm n = 4 then decide (r.p = 2 ∨ r.p = 3) else if fm n = 5 ∨ fm n = 6 then decide (r.p = 1) else false) := by
        unfold takesB
        by_cases f4 : fm n = 4
        · rw [if_pos (by omega), if_pos f4]
        · rw [if_neg (by omega), if_neg f4]
          by_cases f5 : fm n = 5 ∨ fm n = 6
          · rw [if_pos (by omega), if_pos f5]
          · rw [if_neg (by omega), if_neg f5]
      show _ = ((takesB (fm n) r.p && (isNm r.l && decide (r.a = 0))) && decide (r.m = 0))
      rw [← e]
      generalize decide (r.m = 0) = a1
      generalize isNm r.l = a2
      generalize decide (r.a = 0) = a3
      generalize takesB (fm n) r.p = a4
      revert a1 a2 a3 a4
      decide
theorem and3 (b1 b2 b3 : Bool) : b1 = false ∨ (b1 = true ∧ b2 = false) ∨ (b1 = true ∧ b2 = true ∧ b3 = false) ∨ (b1 = true ∧ b2 = true ∧ b3 = true) := by revert b1 b2 b3; decide
theorem code_may (w : World) (r : Ri) (T : Hid (Tabs w)) : Calls Tryd.prog 62 #[.agg (i6 r)] w fun e w' => e = .returned (.bool (codeM r)) ∧ Below w.heap.size w w' := by
  have hB : Hid (Fm w [(w.heap.size, i6 r, 49)] (w.alloc (.cells (i6 r) 49))) := Fm.one w _ _
  have fin : Hid (codeM r = codeM r) := (rfl : codeM r = codeM r)
  obtain ⟨R, hR⟩ : ∃ R, Hid (codeM r = R) := ⟨_, (rfl : codeM r = codeM r)⟩
  rw [hR.out]
  clear fin
  by_cases hp : r.p = 0
  · have p0 : (r.p == 0) = true := by rw [beq_iff_eq]; exact hp
    have hE := fun v T => enc_any r.n r.a v T
    have e0 : (encE r.n r.a == 0) = decide (encE r.n r.a = 0) := by rw [Bool.eq_iff_iff]; simp
    have q3 := emp_is r.l
    have fin : Hid (R = (decide (encE r.n r.a = 0) && decide (r.l.size = 0))) := by
      show _ = _
      rw [← hR.out]
      unfold codeM
      rw [if_pos hp]
    generalize decide (encE r.n r.a = 0) = b1 at e0 fin
    generalize decide (r.l.size = 0) = b2 at q3 fin
    generalize encE r.n r.a = E at hE e0
    clear hp hR
    cases b1
    all_goals
      go_enter Tryd.func62, Tryd.ntmps62
      go_wp2_with (first
        | ((with_reducible refine gen_world (w.alloc (.cells (i6 r) 49)) (Fm w [(w.heap.size, i6 r, 49)]) hB.out ?_); intro y K1; have d0 := (K1.out.bx 0 _ _ _ rfl).c 0 (.int .u8 r.k) rfl; have d1 := (K1.out.bx 0 _ _ _ rfl).c 1 (.string r.n) rfl; have d2 := (K1.out.bx 0 _ _ _ rfl).c 2 (.int .i64 r.a) rfl; have d3 := (K1.out.bx 0 _ _ _ rfl).c 3 (.string r.l) rfl; have d4 := (K1.out.bx 0 _ _ _ rfl).c 4 (.int .u8 r.p) rfl; have d5 := (K1.out.bx 0 _ _ _ rfl).c 5 (.slice r.sp r.m r.cap) rfl)
        | (go_at_call 54; refine (hE y (T.out.below K1.out.low)).mono ?_; rintro e y2 ⟨X, rfl, h2⟩; have K2 : Hid (Fm w [(w.heap.size, i6 r, 49)] y2) := K1.out.below h2; clear d0 d1 d2 d3 d4 d5 h2; have g3 := (K2.out.bx 0 _ _ _ rfl).c 3 (.string r.l) rfl))
      go_ret
      exact ⟨bool_ret (by rw [fin.out]; rfl), K2.out.low⟩
  · have p0 : (r.p == 0) = false := by rw [beq_eq_false_iff_ne]; exact hp
    rcases ho : opOf r.n with _ | n
    · have fin : Hid (R = false) := by
        show _ = _
        rw [← hR.out]
        unfold codeM
        rw [if_neg hp, ho]
      have hF := fun v T => find_none r.n ho v T
      clear hp hR ho
      unfold info0 at hF
      go_enter Tryd.func62, Tryd.ntmps62
      go_wp2_with (first
        | ((with_reducible refine gen_world (w.alloc (.cells (i6 r) 49)) (Fm w [(w.heap.size, i6 r, 49)]) hB.out ?_); intro y K1; have d1 := (K1.out.bx 0 _ _ _ rfl).c 1 (.string r.n) rfl; have d4 := (K1.out.bx 0 _ _ _ rfl).c 4 (.int .u8 r.p) rfl)
        | (go_at_call 49; refine (hF y (T.out.below K1.out.low)).mono ?_; rintro e y2 ⟨rfl, h2⟩; have K2 : Hid (Fm w [(w.heap.size, i6 r, 49), (y2.heap.size, #[.string ⟨#[]⟩, .int .u8 0, .int .i64 0, .int .i64 0], 110)] (y2.alloc (.cells #[.string ⟨#[]⟩, .int .u8 0, .int .i64 0, .int .i64 0] 110))) := (K1.out.below h2).new _ _; clear d1 d4 h2))
      go_ret
      exact ⟨bool_ret fin.out.symm, K2.out.low⟩
    · have fin : Hid (R = (takesB (fm n) r.p && (isNm r.l && decide (r.a = 0)))) := by
        show _ = _
        rw [← hR.out]
        unfold codeM
        rw [if_neg hp, ho]
      have hF := fun v T => find_some r.n n ho (nm n) (fm n) (lay (fm n * 3)) (cyc n) rfl rfl rfl rfl v T
      have hT := fun v => takes_any (fm n) r.p v
      have hN := fun v => pisname_any r.l v
      have e2 : (r.a == 0) = decide (r.a = 0) := by rw [Bool.eq_iff_iff]; simp
      generalize takesB (fm n) r.p = b1 at hT fin
      generalize isNm r.l = b2 at hN fin
      generalize decide (r.a = 0) = b3 at e2 fin
      generalize ((fm n : Nat) : Int) = f at hT hF
      generalize ((lay (fm n * 3) : Nat) : Int) = L at hF
      generalize ((cyc n : Nat) : Int) = c at hF
      generalize nm n = X at hF
      clear hp hR ho
      rcases and3 b1 b2 b3 with rfl | ⟨rfl, rfl⟩ | ⟨rfl, rfl, rfl⟩ | ⟨rfl, rfl, rfl⟩
      all_goals
        go_enter Tryd.func62, Tryd.ntmps62
        go_wp2_with (first
        | ((with_reducible refine gen_world (w.alloc (.cells (i6 r) 49)) (Fm w [(w.heap.size, i6 r, 49)]) hB.out ?_); intro y K1; have d1 := (K1.out.bx 0 _ _ _ rfl).c 1 (.string r.n) rfl; have d4 := (K1.out.bx 0 _ _ _ rfl).c 4 (.int .u8 r.p) rfl)
          | (go_at_call 49; refine (hF y (T.out.below K1.out.low)).mono ?_; rintro e y2 ⟨rfl, h2⟩; have K2 : Hid (Fm w [(w.heap.size, i6 r, 49), (y2.heap.size, #[.string X, .int .u8 f, .int .i64 L, .int .i64 c], 110)] (y2.alloc (.cells #[.string X, .int .u8 f, .int .i64 L, .int .i64 c] 110))) := (K1.out.below h2).new _ _; clear d1 d4 h2; have g2 := (K2.out.bx 0 _ _ _ rfl).c 2 (.int .i64 r.a) rfl; have g3 := (K2.out.bx 0 _ _ _ rfl).c 3 (.string r.l) rfl; have g4 := (K2.out.bx 0 _ _ _ rfl).c 4 (.int .u8 r.p) rfl; have q1 := (K2.out.bx 1 _ _ _ rfl).c 1 (.int .u8 f) rfl)
          | (go_at_call 81; refine (hT _).mono ?_; rintro e y4 ⟨rfl, rfl⟩)
          | (go_at_call 61; refine (hN _).mono ?_; rintro e y5 ⟨rfl, rfl⟩))
        go_ret
        exact ⟨bool_ret (by rw [fin.out]; rfl), K2.out.low⟩
end Go.Proofs.YtkpfhnogpcigaaaDoorR
/- Which items may be, and how many bytes they have: the program's. -/
namespace Go.Proofs.YtkpfhnogpcigaaaDoorR
open Go Go.RowKit
set_option linter.unusedVariables false
set_option maxHeartbeats 3000000
set_option maxRecDepth 20000

def rN (r : Ri) : Ri := { r with n := ⟨#[]⟩ }
def rA (r : Ri) : Ri := { r with a := 0 }
def rL (r : Ri) : Ri := { r with l := ⟨#[]⟩ }
def rP (r : Ri) : Ri := { r with p := 0 }
def rB (r : Ri) : Ri := { r with sp := none, m := 0, cap := 0 }
theorem may1 {r : Ri} (hk : r.k = 1) : mayI r = (isNm r.n && emptyI (rN r)) := by
  unfold mayI emptyI rN
  rw [if_neg (by omega)]
  by_cases hp : r.p = 0
  · rw [if_neg (by omega), if_pos hk]
    simp only [hp, decide_true, Bool.true_and]
    rw [show decide ((⟨#[]⟩ : ByteArray).size = 0) = true from rfl, Bool.true_and]
  · rw [if_pos hp]
    simp [hp]
theorem may2 {r : Ri} (hk : r.k = 2) : mayI r = (codeM r && emptyI (rP (rL (rA (rN r))))) := by
  unfold mayI emptyI rP rL rA rN
  rw [if_pos hk, codeI_is]
  simp only [decide_true, Bool.true_and]
  rw [show decide ((⟨#[]⟩ : ByteArray).size = 0) = true from rfl, Bool.true_and, Bool.true_and]
theorem may3 {r : Ri} (hk : r.k = 3) : mayI r = ((decide (1 ≤ r.m) && decide (r.m ≤ 256)) && emptyI (rB r)) := by
  unfold mayI emptyI rB
  rw [if_neg (by omega)]
  by_cases hp : r.p = 0
  · rw [if_neg (by omega), if_neg (by omega), if_pos hk]
    simp only [hp, decide_true, Bool.and_true]
    generalize decide (r.n.size = 0) = a1
    generalize decide (r.a = 0) = a2
    generalize decide (r.l.size = 0) = a3
    generalize decide (1 ≤ r.m) = a4
    generalize decide (r.m ≤ 256) = a5
    revert a1 a2 a3 a4 a5
    decide
  · rw [if_pos hp]
    simp [hp]
theorem may4 {r : Ri} (hk : r.k = 4) : mayI r = ((decide (0 ≤ r.a) && decide (r.a ≤ 65535)) && emptyI (rA r)) := by
  unfold mayI emptyI rA
  rw [if_neg (by omega)]
  by_cases hp : r.p = 0
  · rw [if_neg (by omega), if_neg (by omega), if_neg (by omega), if_pos hk]
    simp only [hp, decide_true, Bool.true_and]
    generalize decide (r.n.size = 0) = a1
    generalize decide (0 ≤ r.a) = a2
    generalize decide (r.l.size = 0) = a3
    generalize decide (r.m = 0) = a4
    generalize decide (r.a ≤ 65535) = a5
    revert a1 a2 a3 a4 a5
    decide
  · rw [if_pos hp]
    simp [hp]
theorem may5 {r : Ri} (hk : r.k = 5) : mayI r = (isNm r.l && emptyI (rL r)) := by
  unfold mayI emptyI rL
  rw [if_neg (by omega)]
  by_cases hp : r.p = 0
  · rw [if_neg (by omega), if_neg (by omega), if_neg (by omega), if_neg (by omega), if_pos hk]
    simp only [hp, decide_true, Bool.true_and]
    rw [show decide ((⟨#[]⟩ : ByteArray).size = 0) = true from rfl, Bool.true_and]
  · rw [if_pos hp]
    simp [hp]
theorem may0 {r : Ri} (h1 : r.k ≠ 1) (h2 : r.k ≠ 2) (h3 : r.k ≠ 3) (h4 : r.k ≠ 4) (h5 : r.k ≠ 5) : mayI r = false := by
  unfold mayI
  rw [if_neg h2]
  by_cases hp : r.p = 0
  · rw [if_neg (by omega), if_neg h1, if_neg h3, if_neg h4, if_neg h5]
  · rw [if_pos hp]

theorem maybe1 (w : World) (r : Ri) (T : Hid (Tabs w)) (hk : r.k = 1) : Calls Tryd.prog 47 #[.agg (i6 r)] w fun e w' => e = .returned (.bool (mayI r)) ∧ Below w.heap.size w w' := by
  have hB : Hid (Fm w [(w.heap.size, i6 r, 49)] (w.alloc (.cells (i6 r) 49))) := Fm.one w _ _
  have k1 : (r.k == 1) = true := by rw [beq_iff_eq]; exact hk
  rw [may1 hk]
  have hN := fun v => pisname_any r.n v
  generalize isNm r.n = b at hN
  clear hk
  cases b
  · go_enter Tryd.func47, Tryd.ntmps47
    go_wp2_with (first
      | (go_at_call 61; refine (hN y).mono ?_; rintro e y2 ⟨rfl, rfl⟩; have z1 := (K1.out.bx 0 _ _ _ rfl).fz 1; have K6 : Hid (Fm w [(w.heap.size, i6 (rN r), 49)] (y2.setCell ⟨w.heap.size, 1, none⟩ (.string ⟨#[]⟩))) := K1.out.setCell 0 _ _ _ _ rfl 1 _ rfl)
      | ((with_reducible refine gen_world (w.alloc (.cells (i6 r) 49)) (Fm w [(w.heap.size, i6 r, 49)]) hB.out ?_); intro y K1; have d0 := (K1.out.bx 0 _ _ _ rfl).c 0 (.int .u8 r.k) rfl; have d1 := (K1.out.bx 0 _ _ _ rfl).c 1 (.string r.n) rfl; have d2 := (K1.out.bx 0 _ _ _ rfl).c 2 (.int .i64 r.a) rfl; have d3 := (K1.out.bx 0 _ _ _ rfl).c 3 (.string r.l) rfl; have d4 := (K1.out.bx 0 _ _ _ rfl).c 4 (.int .u8 r.p) rfl; have d5 := (K1.out.bx 0 _ _ _ rfl).c 5 (.slice r.sp r.m r.cap) rfl))
    go_ret
    exact ⟨bool_ret (by rfl), K6.out.low⟩
  · go_enter Tryd.func47, Tryd.ntmps47
    go_wp2_with (first
      | (go_at_call 63; refine (isempty_any _ (rN r)).mono ?_; rintro e y7 ⟨rfl, h7⟩; have K7 : Hid (Below w.heap.size w y7) := (K6.out.below h7).low; clear h7)
      | ((with_reducible refine at_load rt6 w.heap.size (i6 (rN r)) ?_ ?_ (.tmp 1) ?_ ?_ ?_ ?_); exact K6.out.bx 0 _ _ _ rfl; rfl; rfl; rfl; rfl)
      | (go_at_call 61; refine (hN y).mono ?_; rintro e y2 ⟨rfl, rfl⟩; have z1 := (K1.out.bx 0 _ _ _ rfl).fz 1; have K6 : Hid (Fm w [(w.heap.size, i6 (rN r), 49)] (y2.setCell ⟨w.heap.size, 1, none⟩ (.string ⟨#[]⟩))) := K1.out.setCell 0 _ _ _ _ rfl 1 _ rfl)
      | ((with_reducible refine gen_world (w.alloc (.cells (i6 r) 49)) (Fm w [(w.heap.size, i6 r, 49)]) hB.out ?_); intro y K1; have d0 := (K1.out.bx 0 _ _ _ rfl).c 0 (.int .u8 r.k) rfl; have d1 := (K1.out.bx 0 _ _ _ rfl).c 1 (.string r.n) rfl; have d2 := (K1.out.bx 0 _ _ _ rfl).c 2 (.int .i64 r.a) rfl; have d3 := (K1.out.bx 0 _ _ _ rfl).c 3 (.string r.l) rfl; have d4 := (K1.out.bx 0 _ _ _ rfl).c 4 (.int .u8 r.p) rfl; have d5 := (K1.out.bx 0 _ _ _ rfl).c 5 (.slice r.sp r.m r.cap) rfl))
    go_ret
    exact ⟨bool_ret (by rfl), K7.out⟩

theorem maybe5 (w : World) (r : Ri) (T : Hid (Tabs w)) (hk : r.k = 5) : Calls Tryd.prog 47 #[.agg (i6 r)] w fun e w' => e = .returned (.bool (mayI r)) ∧ Below w.heap.size w w' := by
  have hB : Hid (Fm w [(w.heap.size, i6 r, 49)] (w.alloc (.cells (i6 r) 49))) := Fm.one w _ _
  have k1 : (r.k == 1) = false := by rw [beq_eq_false_iff_ne]; omega
  have k2 : (r.k == 2) = false := by rw [beq_eq_false_iff_ne]; omega
  have k3 : (r.k == 3) = false := by rw [beq_eq_false_iff_ne]; omega
  have k4 : (r.k == 4) = false := by rw [beq_eq_false_iff_ne]; omega
  have k5 : (r.k == 5) = true := by rw [beq_iff_eq]; exact hk
  rw [may5 hk]
  have hN := fun v => pisname_any r.l v
  generalize isNm r.l = b at hN
  clear hk
  cases b
  · go_enter Tryd.func47, Tryd.ntmps47
    go_wp2_with (first
      | (go_at_call 61; refine (hN y).mono ?_; rintro e y2 ⟨rfl, rfl⟩; have z3 := (K1.out.bx 0 _ _ _ rfl).fz 3; have K6 : Hid (Fm w [(w.heap.size, i6 (rL r), 49)] (y2.setCell ⟨w.heap.size, 3, none⟩ (.string ⟨#[]⟩))) := K1.out.setCell 0 _ _ _ _ rfl 3 _ rfl)
      | ((with_reducible refine gen_world (w.alloc (.cells (i6 r) 49)) (Fm w [(w.heap.size, i6 r, 49)]) hB.out ?_); intro y K1; have d0 := (K1.out.bx 0 _ _ _ rfl).c 0 (.int .u8 r.k) rfl; have d1 := (K1.out.bx 0 _ _ _ rfl).c 1 (.string r.n) rfl; have d2 := (K1.out.bx 0 _ _ _ rfl).c 2 (.int .i64 r.a) rfl; have d3 := (K1.out.bx 0 _ _ _ rfl).c 3 (.string r.l) rfl; have d4 := (K1.out.bx 0 _ _ _ rfl).c 4 (.int .u8 r.p) rfl; have d5 := (K1.out.bx 0 _ _ _ rfl).c 5 (.slice r.sp r.m r.cap) rfl))
    go_ret
    exact ⟨bool_ret (by rfl), K6.out.low⟩
  · go_enter Tryd.func47, Tryd.ntmps47
    go_wp2_with (first
      | (go_at_call 63; refine (isempty_any _ (rL r)).mono ?_; rintro e y7 ⟨rfl, h7⟩; have K7 : Hid (Below w.heap.size w y7) := (K6.out.below h7).low; clear h7)
      | ((with_reducible refine at_load rt6 w.heap.size (i6 (rL r)) ?_ ?_ (.tmp 1) ?_ ?_ ?_ ?_); exact K6.out.bx 0 _ _ _ rfl; rfl; rfl; rfl; rfl)
      | (go_at_call 61; refine (hN y).mono ?_; rintro e y2 ⟨rfl, rfl⟩; have z3 := (K1.out.bx 0 _ _ _ rfl).fz 3; have K6 : Hid (Fm w [(w.heap.size, i6 (rL r), 49)] (y2.setCell ⟨w.heap.size, 3, none⟩ (.string ⟨#[]⟩))) := K1.out.setCell 0 _ _ _ _ rfl 3 _ rfl)
      | ((with_reducible refine gen_world (w.alloc (.cells (i6 r) 49)) (Fm w [(w.heap.size, i6 r, 49)]) hB.out ?_); intro y K1; have d0 := (K1.out.bx 0 _ _ _ rfl).c 0 (.int .u8 r.k) rfl; have d1 := (K1.out.bx 0 _ _ _ rfl).c 1 (.string r.n) rfl; have d2 := (K1.out.bx 0 _ _ _ rfl).c 2 (.int .i64 r.a) rfl; have d3 := (K1.out.bx 0 _ _ _ rfl).c 3 (.string r.l) rfl; have d4 := (K1.out.bx 0 _ _ _ rfl).c 4 (.int .u8 r.p) rfl; have d5 := (K1.out.bx 0 _ _ _ rfl).c 5 (.slice r.sp r.m r.cap) rfl))
    go_ret
    exact ⟨bool_ret (by rfl), K7.out⟩

theorem maybe2 (w : World) (r : Ri) (T : Hid (Tabs w)) (hk : r.k = 2) : Calls Tryd.prog 47 #[.agg (i6 r)] w fun e w' => e = .returned (.bool (mayI r)) ∧ Below w.heap.size w w' := by
  have hB : Hid (Fm w [(w.heap.size, i6 r, 49)] (w.alloc (.cells (i6 r) 49))) := Fm.one w _ _
  have k1 : (r.k == 1) = false := by rw [beq_eq_false_iff_ne]; omega
  have k2 : (r.k == 2) = true := by rw [beq_iff_eq]; exact hk
  rw [may2 hk]
  have hC := fun v T => code_may v r T
  generalize codeM r = b at hC
  clear hk
  cases b
  · go_enter Tryd.func47, Tryd.ntmps47
    go_wp2_with (first
      | ((with_reducible refine gen_world (y4.setCell ⟨w.heap.size, 3, none⟩ (.string ⟨#[]⟩)) (Fm w [(w.heap.size, i6 (rL (rA (rN r))), 49)]) ?_ ?_); exact K4.out.setCell 0 _ _ _ _ rfl 3 _ rfl; intro y5 K5; have g4 := (K5.out.bx 0 _ _ _ rfl).c 4 (.int .u8 r.p) rfl; have z4 := (K5.out.bx 0 _ _ _ rfl).fz 4; have K6 : Hid (Fm w [(w.heap.size, i6 (rP (rL (rA (rN r)))), 49)] (y5.setCell ⟨w.heap.size, 4, none⟩ (.int .u8 0))) := K5.out.setCell 0 _ _ _ _ rfl 4 _ rfl)
      | ((with_reducible refine gen_world (y3.setCell ⟨w.heap.size, 2, none⟩ (.int .i64 0)) (Fm w [(w.heap.size, i6 (rA (rN r)), 49)]) ?_ ?_); exact K3.out.setCell 0 _ _ _ _ rfl 2 _ rfl; intro y4 K4; have g3 := (K4.out.bx 0 _ _ _ rfl).c 3 (.string r.l) rfl; have z3 := (K4.out.bx 0 _ _ _ rfl).fz 3)
      | ((with_reducible refine gen_world (y2.setCell ⟨w.heap.size, 1, none⟩ (.string ⟨#[]⟩)) (Fm w [(w.heap.size, i6 (rN r), 49)]) ?_ ?_); exact K2.out.setCell 0 _ _ _ _ rfl 1 _ rfl; intro y3 K3; have g2 := (K3.out.bx 0 _ _ _ rfl).c 2 (.int .i64 r.a) rfl; have z2 := (K3.out.bx 0 _ _ _ rfl).fz 2)
      | ((with_reducible refine at_load rt6 w.heap.size (i6 r) ?_ ?_ (.tmp 1) ?_ ?_ ?_ ?_); exact K1.out.bx 0 _ _ _ rfl; rfl; rfl; rfl; rfl)
      | (go_at_call 62; refine (hC y (T.out.below K1.out.low)).mono ?_; rintro e y2 ⟨rfl, h2⟩; have K2 : Hid (Fm w [(w.heap.size, i6 r, 49)] y2) := K1.out.below h2; clear d0 d1 d2 d3 d4 d5 h2; have g1 := (K2.out.bx 0 _ _ _ rfl).c 1 (.string r.n) rfl; have z1 := (K2.out.bx 0 _ _ _ rfl).fz 1)
      | ((with_reducible refine gen_world (w.alloc (.cells (i6 r) 49)) (Fm w [(w.heap.size, i6 r, 49)]) hB.out ?_); intro y K1; have d0 := (K1.out.bx 0 _ _ _ rfl).c 0 (.int .u8 r.k) rfl; have d1 := (K1.out.bx 0 _ _ _ rfl).c 1 (.string r.n) rfl; have d2 := (K1.out.bx 0 _ _ _ rfl).c 2 (.int .i64 r.a) rfl; have d3 := (K1.out.bx 0 _ _ _ rfl).c 3 (.string r.l) rfl; have d4 := (K1.out.bx 0 _ _ _ rfl).c 4 (.int .u8 r.p) rfl; have d5 := (K1.out.bx 0 _ _ _ rfl).c 5 (.slice r.sp r.m r.cap) rfl))
    go_ret
    exact ⟨bool_ret (by rfl), K6.out.low⟩
  · go_enter Tryd.func47, Tryd.ntmps47
    go_wp2_with (first
      | (go_at_call 63; refine (isempty_any _ (rP (rL (rA (rN r))))).mono ?_; rintro e y7 ⟨rfl, h7⟩; have K7 : Hid (Below w.heap.size w y7) := (K6.out.below h7).low; clear h7)
      | ((with_reducible refine at_load rt6 w.heap.size (i6 (rP (rL (rA (rN r))))) ?_ ?_ (.tmp 1) ?_ ?_ ?_ ?_); exact K6.out.bx 0 _ _ _ rfl; rfl; rfl; rfl; rfl)
      | ((with_reducible refine gen_world (y4.setCell ⟨w.heap.size, 3, none⟩ (.string ⟨#[]⟩)) (Fm w [(w.heap.size, i6 (rL (rA (rN r))), 49)]) ?_ ?_); exact K4.out.setCell 0 _ _ _ _ rfl 3 _ rfl; intro y5 K5; have g4 := (K5.out.bx 0 _ _ _ rfl).c 4 (.int .u8 r.p) rfl; have z4 := (K5.out.bx 0 _ _ _ rfl).fz 4; have K6 : Hid (Fm w [(w.heap.size, i6 (rP (rL (rA (rN r)))), 49)] (y5.setCell ⟨w.heap.size, 4, none⟩ (.int .u8 0))) := K5.out.setCell 0 _ _ _ _ rfl 4 _ rfl)
      | ((with_reducible refine gen_world (y3.setCell ⟨w.heap.size, 2, none⟩ (.int .i64 0)) (Fm w [(w.heap.size, i6 (rA (rN r)), 49)]) ?_ ?_); exact K3.out.setCell 0 _ _ _ _ rfl 2 _ rfl; intro y4 K4; have g3 := (K4.out.bx 0 _ _ _ rfl).c 3 (.string r.l) rfl; have z3 := (K4.out.bx 0 _ _ _ rfl).fz 3)
      | ((with_reducible refine gen_world (y2.setCell ⟨w.heap.size, 1, none⟩ (.string ⟨#[]⟩)) (Fm w [(w.heap.size, i6 (rN r), 49)]) ?_ ?_); exact K2.out.setCell 0 _ _ _ _ rfl 1 _ rfl; intro y3 K3; have g2 := (K3.out.bx 0 _ _ _ rfl).c 2 (.int .i64 r.a) rfl; have z2 := (K3.out.bx 0 _ _ _ rfl).fz 2)
      | ((with_reducible refine at_load rt6 w.heap.size (i6 r) ?_ ?_ (.tmp 1) ?_ ?_ ?_ ?_); exact K1.out.bx 0 _ _ _ rfl; rfl; rfl; rfl; rfl)
      | (go_at_call 62; refine (hC y (T.out.below K1.out.low)).mono ?_; rintro e y2 ⟨rfl, h2⟩; have K2 : Hid (Fm w [(w.heap.size, i6 r, 49)] y2) := K1.out.below h2; clear d0 d1 d2 d3 d4 d5 h2; have g1 := (K2.out.bx 0 _ _ _ rfl).c 1 (.string r.n) rfl; have z1 := (K2.out.bx 0 _ _ _ rfl).fz 1)
      | ((with_reducible refine gen_world (w.alloc (.cells (i6 r) 49)) (Fm w [(w.heap.size, i6 r, 49)]) hB.out ?_); intro y K1; have d0 := (K1.out.bx 0 _ _ _ rfl).c 0 (.int .u8 r.k) rfl; have d1 := (K1.out.bx 0 _ _ _ rfl).c 1 (.string r.n) rfl; have d2 := (K1.out.bx 0 _ _ _ rfl).c 2 (.int .i64 r.a) rfl; have d3 := (K1.out.bx 0 _ _ _ rfl).c 3 (.string r.l) rfl; have d4 := (K1.out.bx 0 _ _ _ rfl).c 4 (.int .u8 r.p) rfl; have d5 := (K1.out.bx 0 _ _ _ rfl).c 5 (.slice r.sp r.m r.cap) rfl))
    go_ret
    exact ⟨bool_ret (by rfl), K7.out⟩

theorem and2 (b1 b2 : Bool) : b1 = false ∨ (b1 = true ∧ b2 = false) ∨ (b1 = true ∧ b2 = true) := by revert b1 b2; decide

theorem maybe3 (w : World) (r : Ri) (T : Hid (Tabs w)) (hk : r.k = 3) : Calls Tryd.prog 47 #[.agg (i6 r)] w fun e w' => e = .returned (.bool (mayI r)) ∧ Below w.heap.size w w' := by
  have hB : Hid (Fm w [(w.heap.size, i6 r, 49)] (w.alloc (.cells (i6 r) 49))) := Fm.one w _ _
  have k1 : (r.k == 1) = false := by rw [beq_eq_false_iff_ne]; omega
  have k2 : (r.k == 2) = false := by rw [beq_eq_false_iff_ne]; omega
  have k3 : (r.k == 3) = true := by rw [beq_iff_eq]; exact hk
  rw [may3 hk]
  have e1 : decide ((1 : Int) ≤ (r.m : Int)) = decide (1 ≤ r.m) := by rw [Bool.eq_iff_iff]; simp; omega
  have e2 : decide ((r.m : Int) ≤ 256) = decide (r.m ≤ 256) := by rw [Bool.eq_iff_iff]; simp; omega
  have e3 : (r.m ≤ 256) ↔ decide (r.m ≤ 256) = true := by simp
  have e4 : (1 ≤ r.m) ↔ decide (1 ≤ r.m) = true := by simp
  obtain ⟨b1, hb1⟩ : ∃ b, decide (1 ≤ r.m) = b := ⟨_, rfl⟩
  obtain ⟨b2, hb2⟩ : ∃ b, decide (r.m ≤ 256) = b := ⟨_, rfl⟩
  rw [hb1] at e1 e4
  rw [hb2] at e2 e3
  rw [hb1, hb2]
  clear hk
  rcases and2 b1 b2 with rfl | ⟨rfl, rfl⟩ | ⟨rfl, rfl⟩
  · go_enter Tryd.func47, Tryd.ntmps47
    go_wp2_with (first
      | ((with_reducible refine gen_world (w.alloc (.cells (i6 r) 49)) (Fm w [(w.heap.size, i6 r, 49)]) hB.out ?_); intro y K1; have d0 := (K1.out.bx 0 _ _ _ rfl).c 0 (.int .u8 r.k) rfl; have d1 := (K1.out.bx 0 _ _ _ rfl).c 1 (.string r.n) rfl; have d2 := (K1.out.bx 0 _ _ _ rfl).c 2 (.int .i64 r.a) rfl; have d3 := (K1.out.bx 0 _ _ _ rfl).c 3 (.string r.l) rfl; have d4 := (K1.out.bx 0 _ _ _ rfl).c 4 (.int .u8 r.p) rfl; have d5 := (K1.out.bx 0 _ _ _ rfl).c 5 (.slice r.sp r.m r.cap) rfl; have z5 := (K1.out.bx 0 _ _ _ rfl).fz 5; have K6 : Hid (Fm w [(w.heap.size, i6 (rB r), 49)] (y.setCell ⟨w.heap.size, 5, none⟩ (.slice none 0 0))) := K1.out.setCell 0 _ _ _ _ rfl 5 _ rfl))
    go_ret
    exact ⟨bool_ret (by rfl), K6.out.low⟩
  · go_enter Tryd.func47, Tryd.ntmps47
    go_wp2_with (first
      | ((with_reducible refine gen_world (w.alloc (.cells (i6 r) 49)) (Fm w [(w.heap.size, i6 r, 49)]) hB.out ?_); intro y K1; have d0 := (K1.out.bx 0 _ _ _ rfl).c 0 (.int .u8 r.k) rfl; have d1 := (K1.out.bx 0 _ _ _ rfl).c 1 (.string r.n) rfl; have d2 := (K1.out.bx 0 _ _ _ rfl).c 2 (.int .i64 r.a) rfl; have d3 := (K1.out.bx 0 _ _ _ rfl).c 3 (.string r.l) rfl; have d4 := (K1.out.bx 0 _ _ _ rfl).c 4 (.int .u8 r.p) rfl; have d5 := (K1.out.bx 0 _ _ _ rfl).c 5 (.slice r.sp r.m r.cap) rfl; have z5 := (K1.out.bx 0 _ _ _ rfl).fz 5; have K6 : Hid (Fm w [(w.heap.size, i6 (rB r), 49)] (y.setCell ⟨w.heap.size, 5, none⟩ (.slice none 0 0))) := K1.out.setCell 0 _ _ _ _ rfl 5 _ rfl))
    go_ret
    exact ⟨bool_ret (by rfl), K6.out.low⟩
  · go_enter Tryd.func47, Tryd.ntmps47
    go_wp2_with (first
      | (go_at_call 63; refine (isempty_any _ (rB r)).mono ?_; rintro e y7 ⟨rfl, h7⟩; have K7 : Hid (Below w.heap.size w y7) := (K6.out.below h7).low; clear h7)
      | ((with_reducible refine at_load rt6 w.heap.size (i6 (rB r)) ?_ ?_ (.tmp 1) ?_ ?_ ?_ ?_); exact K6.out.bx 0 _ _ _ rfl; rfl; rfl; rfl; rfl)
      | ((with_reducible refine gen_world (w.alloc (.cells (i6 r) 49)) (Fm w [(w.heap.size, i6 r, 49)]) hB.out ?_); intro y K1; have d0 := (K1.out.bx 0 _ _ _ rfl).c 0 (.int .u8 r.k) rfl; have d1 := (K1.out.bx 0 _ _ _ rfl).c 1 (.string r.n) rfl; have d2 := (K1.out.bx 0 _ _ _ rfl).c 2 (.int .i64 r.a) rfl; have d3 := (K1.out.bx 0 _ _ _ rfl).c 3 (.string r.l) rfl; have d4 := (K1.out.bx 0 _ _ _ rfl).c 4 (.int .u8 r.p) rfl; have d5 := (K1.out.bx 0 _ _ _ rfl).c 5 (.slice r.sp r.m r.cap) rfl; have z5 := (K1.out.bx 0 _ _ _ rfl).fz 5; have K6 : Hid (Fm w [(w.heap.size, i6 (rB r), 49)] (y.setCell ⟨w.heap.size, 5, none⟩ (.slice none 0 0))) := K1.out.setCell 0 _ _ _ _ rfl 5 _ rfl))
    go_ret
    exact ⟨bool_ret (by rfl), K7.out⟩

theorem maybe4 (w : World) (r : Ri) (T : Hid (Tabs w)) (hk : r.k = 4) : Calls Tryd.prog 47 #[.agg (i6 r)] w fun e w' => e = .returned (.bool (mayI r)) ∧ Below w.heap.size w w' := by
  have hB : Hid (Fm w [(w.heap.size, i6 r, 49)] (w.alloc (.cells (i6 r) 49))) := Fm.one w _ _
  have k1 : (r.k == 1) = false := by rw [beq_eq_false_iff_ne]; omega
  have k2 : (r.k == 2) = false := by rw [beq_eq_false_iff_ne]; omega
  have k3 : (r.k == 3) = false := by rw [beq_eq_false_iff_ne]; omega
  have k4 : (r.k == 4) = true := by rw [beq_iff_eq]; exact hk
  rw [may4 hk]
  obtain ⟨b1, hb1⟩ : ∃ b, decide (0 ≤ r.a) = b := ⟨_, rfl⟩
  obtain ⟨b2, hb2⟩ : ∃ b, decide (r.a ≤ 65535) = b := ⟨_, rfl⟩
  rw [hb1, hb2]
  clear hk
  rcases and2 b1 b2 with rfl | ⟨rfl, rfl⟩ | ⟨rfl, rfl⟩
  · go_enter Tryd.func47, Tryd.ntmps47
    go_wp2_with (first
      | ((with_reducible refine gen_world (w.alloc (.cells (i6 r) 49)) (Fm w [(w.heap.size, i6 r, 49)]) hB.out ?_); intro y K1; have d0 := (K1.out.bx 0 _ _ _ rfl).c 0 (.int .u8 r.k) rfl; have d1 := (K1.out.bx 0 _ _ _ rfl).c 1 (.string r.n) rfl; have d2 := (K1.out.bx 0 _ _ _ rfl).c 2 (.int .i64 r.a) rfl; have d3 := (K1.out.bx 0 _ _ _ rfl).c 3 (.string r.l) rfl; have d4 := (K1.out.bx 0 _ _ _ rfl).c 4 (.int .u8 r.p) rfl; have d5 := (K1.out.bx 0 _ _ _ rfl).c 5 (.slice r.sp r.m r.cap) rfl; have z2 := (K1.out.bx 0 _ _ _ rfl).fz 2; have K6 : Hid (Fm w [(w.heap.size, i6 (rA r), 49)] (y.setCell ⟨w.heap.size, 2, none⟩ (.int .i64 0))) := K1.out.setCell 0 _ _ _ _ rfl 2 _ rfl))
    go_ret
    exact ⟨bool_ret (by rfl), K6.out.low⟩
  · go_enter Tryd.func47, Tryd.ntmps47
    go_wp2_with (first
      | ((with_reducible refine gen_world (w.alloc (.cells (i6 r) 49)) (Fm w [(w.heap.size, i6 r, 49)]) hB.out ?_); intro y K1; have d0 := (K1.out.bx 0 _ _ _ rfl).c 0 (.int .u8 r.k) rfl; have d1 := (K1.out.bx 0 _ _ _ rfl).c 1 (.string r.n) rfl; have d2 := (K1.out.bx 0 _ _ _ rfl).c 2 (.int .i64 r.a) rfl; have d3 := (K1.out.bx 0 _ _ _ rfl).c 3 (.string r.l) rfl; have d4 := (K1.out.bx 0 _ _ _ rfl).c 4 (.int .u8 r.p) rfl; have d5 := (K1.out.bx 0 _ _ _ rfl).c 5 (.slice r.sp r.m r.cap) rfl; have z2 := (K1.out.bx 0 _ _ _ rfl).fz 2; have K6 : Hid (Fm w [(w.heap.size, i6 (rA r), 49)] (y.setCell ⟨w.heap.size, 2, none⟩ (.int .i64 0))) := K1.out.setCell 0 _ _ _ _ rfl 2 _ rfl))
    go_ret
    exact ⟨bool_ret (by rfl), K6.out.low⟩
  · go_enter Tryd.func47, Tryd.ntmps47
    go_wp2_with (first
      | (go_at_call 63; refine (isempty_any _ (rA r)).mono ?_; rintro e y7 ⟨rfl, h7⟩; have K7 : Hid (Below w.heap.size w y7) := (K6.out.below h7).low; clear h7)
      | ((with_reducible refine at_load rt6 w.heap.size (i6 (rA r)) ?_ ?_ (.tmp 1) ?_ ?_ ?_ ?_); exact K6.out.bx 0 _ _ _ rfl; rfl; rfl; rfl; rfl)
      | ((with_reducible refine gen_world (w.alloc (.cells (i6 r) 49)) (Fm w [(w.heap.size, i6 r, 49)]) hB.out ?_); intro y K1; have d0 := (K1.out.bx 0 _ _ _ rfl).c 0 (.int .u8 r.k) rfl; have d1 := (K1.out.bx 0 _ _ _ rfl).c 1 (.string r.n) rfl; have d2 := (K1.out.bx 0 _ _ _ rfl).c 2 (.int .i64 r.a) rfl; have d3 := (K1.out.bx 0 _ _ _ rfl).c 3 (.string r.l) rfl; have d4 := (K1.out.bx 0 _ _ _ rfl).c 4 (.int .u8 r.p) rfl; have d5 := (K1.out.bx 0 _ _ _ rfl).c 5 (.slice r.sp r.m r.cap) rfl; have z2 := (K1.out.bx 0 _ _ _ rfl).fz 2; have K6 : Hid (Fm w [(w.heap.size, i6 (rA r), 49)] (y.setCell ⟨w.heap.size, 2, none⟩ (.int .i64 0))) := K1.out.setCell 0 _ _ _ _ rfl 2 _ rfl))
    go_ret
    exact ⟨bool_ret (by rfl), K7.out⟩

theorem maybe0 (w : World) (r : Ri) (T : Hid (Tabs w)) (hk : r.k ≠ 1 ∧ r.k ≠ 2 ∧ r.k ≠ 3 ∧ r.k ≠ 4 ∧ r.k ≠ 5) : Calls Tryd.prog 47 #[.agg (i6 r)] w fun e w' => e = .returned (.bool (mayI r)) ∧ Below w.heap.size w w' := by
  have hB : Hid (Fm w [(w.heap.size, i6 r, 49)] (w.alloc (.cells (i6 r) 49))) := Fm.one w _ _
  have k1 : (r.k == 1) = false := by rw [beq_eq_false_iff_ne]; omega
  have k2 : (r.k == 2) = false := by rw [beq_eq_false_iff_ne]; omega
  have k3 : (r.k == 3) = false := by rw [beq_eq_false_iff_ne]; omega
  have k4 : (r.k == 4) = false := by rw [beq_eq_false_iff_ne]; omega
  have k5 : (r.k == 5) = false := by rw [beq_eq_false_iff_ne]; omega
  rw [may0 hk.1 hk.2.1 hk.2.2.1 hk.2.2.2.1 hk.2.2.2.2]
  clear hk
  go_enter Tryd.func47, Tryd.ntmps47
  go_wp2_with ((with_reducible refine gen_world (w.alloc (.cells (i6 r) 49)) (Fm w [(w.heap.size, i6 r, 49)]) hB.out ?_); intro y K1; have d0 := (K1.out.bx 0 _ _ _ rfl).c 0 (.int .u8 r.k) rfl; have d1 := (K1.out.bx 0 _ _ _ rfl).c 1 (.string r.n) rfl; have d2 := (K1.out.bx 0 _ _ _ rfl).c 2 (.int .i64 r.a) rfl; have d3 := (K1.out.bx 0 _ _ _ rfl).c 3 (.string r.l) rfl; have d4 := (K1.out.bx 0 _ _ _ rfl).c 4 (.int .u8 r.p) rfl; have d5 := (K1.out.bx 0 _ _ _ rfl).c 5 (.slice r.sp r.m r.cap) rfl)
  go_ret
  exact ⟨rfl, K1.out.low⟩

theorem maybe_any (w : World) (r : Ri) (T : Hid (Tabs w)) : Calls Tryd.prog 47 #[.agg (i6 r)] w fun e w' => e = .returned (.bool (mayI r)) ∧ Below w.heap.size w w' := by
  by_cases h1 : r.k = 1
  · exact maybe1 w r T h1
  by_cases h2 : r.k = 2
  · exact maybe2 w r T h2
  by_cases h3 : r.k = 3
  · exact maybe3 w r T h3
  by_cases h4 : r.k = 4
  · exact maybe4 w r T h4
  by_cases h5 : r.k = 5
  · exact maybe5 w r T h5
  exact maybe0 w r T ⟨h1, h2, h3, h4, h5⟩
end Go.Proofs.YtkpfhnogpcigaaaDoorR
/- Which items of a source may be, how many bytes one has: the program's Check and Size. -/
namespace Go.Proofs.YtkpfhnogpcigaaaDoorR
open Go Go.RowKit
set_option linter.unusedVariables false
set_option maxHeartbeats 3000000
set_option maxRecDepth 20000

theorem psize_any (w : World) (r : Ri) (T : Hid (Tabs w)) : Calls Tryd.prog 56 #[.agg (i6 r)] w fun e w' => e = .returned (.tuple #[.int .i64 (sizeI r), .int .i64 (sizeE r)]) ∧ Below w.heap.size w w' := by
  have hB : Hid (Fm w [(w.heap.size, i6 r, 49)] (w.alloc (.cells (i6 r) 49))) := Fm.one w _ _
  have hM := fun v T => maybe_any v r T
  obtain ⟨S, hS⟩ : ∃ S, Hid (sizeI r = S) := ⟨_, (rfl : sizeI r = sizeI r)⟩
  obtain ⟨E, hE⟩ : ∃ S, Hid (sizeE r = S) := ⟨_, (rfl : sizeE r = sizeE r)⟩
  rw [hS.out, hE.out]
  by_cases hm : mayI r = true
  · rw [hm] at hM
    have e1 : Hid (E = 0) := by show _ = _; rw [← hE.out]; unfold sizeE; rw [if_pos hm]
    by_cases h2 : r.k = 2
    · obtain ⟨n, ho⟩ := mayI_code hm h2
      have hf := fun v T => find_some r.n n ho (nm n) (fm n) (lay (fm n * 3)) (cyc n) rfl rfl rfl rfl v T
      have e2 : Hid (S = (lay (fm n * 3) : Nat)) := by show _ = _; rw [← hS.out]; unfold sizeI; rw [if_pos hm, if_pos h2, ho]
      have k2 : (r.k == 2) = true := by rw [beq_iff_eq]; exact h2
      generalize ((fm n : Nat) : Int) = f at hf
      generalize ((lay (fm n * 3) : Nat) : Int) = L at hf e2
      generalize ((cyc n : Nat) : Int) = c at hf
      generalize nm n = X at hf
      clear hm h2 ho
      go_enter Tryd.func56, Tryd.ntmps56
      go_wp2_with (first
        | (go_at_call 49; refine (hf y2 (T.out.below K2.out.low)).mono ?_; rintro e y3 ⟨rfl, h3⟩; have K3 : Hid (Fm w [(w.heap.size, i6 r, 49), (y3.heap.size, #[.string X, .int .u8 f, .int .i64 L, .int .i64 c], 110)] (y3.alloc (.cells #[.string X, .int .u8 f, .int .i64 L, .int .i64 c] 110))) := (K2.out.below h3).new _ _; clear g0 g1 g2 g3 g4 g5 h3; have q2 := (K3.out.bx 1 _ _ _ rfl).c 2 (.int .i64 L) rfl)
        | (go_at_call 47; refine (hM y (T.out.below K1.out.low)).mono ?_; rintro e y2 ⟨rfl, h2⟩; have K2 : Hid (Fm w [(w.heap.size, i6 r, 49)] y2) := K1.out.below h2; clear d0 d1 d2 d3 d4 d5 h2; have g0 := (K2.out.bx 0 _ _ _ rfl).c 0 (.int .u8 r.k) rfl; have g1 := (K2.out.bx 0 _ _ _ rfl).c 1 (.string r.n) rfl; have g2 := (K2.out.bx 0 _ _ _ rfl).c 2 (.int .i64 r.a) rfl; have g3 := (K2.out.bx 0 _ _ _ rfl).c 3 (.string r.l) rfl; have g4 := (K2.out.bx 0 _ _ _ rfl).c 4 (.int .u8 r.p) rfl; have g5 := (K2.out.bx 0 _ _ _ rfl).c 5 (.slice r.sp r.m r.cap) rfl)
        | ((with_reducible refine at_load rt6 w.heap.size (i6 r) ?_ ?_ (.tmp 1) ?_ ?_ ?_ ?_); exact K1.out.bx 0 _ _ _ rfl; rfl; rfl; rfl; rfl)
        | ((with_reducible refine gen_world (w.alloc (.cells (i6 r) 49)) (Fm w [(w.heap.size, i6 r, 49)]) hB.out ?_); intro y K1; have d0 := (K1.out.bx 0 _ _ _ rfl).c 0 (.int .u8 r.k) rfl; have d1 := (K1.out.bx 0 _ _ _ rfl).c 1 (.string r.n) rfl; have d2 := (K1.out.bx 0 _ _ _ rfl).c 2 (.int .i64 r.a) rfl; have d3 := (K1.out.bx 0 _ _ _ rfl).c 3 (.string r.l) rfl; have d4 := (K1.out.bx 0 _ _ _ rfl).c 4 (.int .u8 r.p) rfl; have d5 := (K1.out.bx 0 _ _ _ rfl).c 5 (.slice r.sp r.m r.cap) rfl))
      (try simp only [Exit.inBlock, Exit.then])
      refine bodyPost_ret (by simp [results, Tryd.results56, go_sem]; try rfl) rfl ?_
      exact ⟨tup_ret e2.out.symm e1.out.symm, K3.out.low⟩
    · have k2 : (r.k == 2) = false := by rw [beq_eq_false_iff_ne]; exact h2
      by_cases h3 : r.k = 3
      · have k3 : (r.k == 3) = true := by rw [beq_iff_eq]; exact h3
        have e2 : Hid (S = r.m) := by show _ = _; rw [← hS.out]; unfold sizeI; rw [if_pos hm, if_neg h2, if_pos h3]
        clear hm h2 h3
        go_enter Tryd.func56, Tryd.ntmps56
        go_wp2_with (first
          | (go_at_call 47; refine (hM y (T.out.below K1.out.low)).mono ?_; rintro e y2 ⟨rfl, h2⟩; have K2 : Hid (Fm w [(w.heap.size, i6 r, 49)] y2) := K1.out.below h2; clear d0 d1 d2 d3 d4 d5 h2; have g0 := (K2.out.bx 0 _ _ _ rfl).c 0 (.int .u8 r.k) rfl; have g1 := (K2.out.bx 0 _ _ _ rfl).c 1 (.string r.n) rfl; have g2 := (K2.out.bx 0 _ _ _ rfl).c 2 (.int .i64 r.a) rfl; have g3 := (K2.out.bx 0 _ _ _ rfl).c 3 (.string r.l) rfl; have g4 := (K2.out.bx 0 _ _ _ rfl).c 4 (.int .u8 r.p) rfl; have g5 := (K2.out.bx 0 _ _ _ rfl).c 5 (.slice r.sp r.m r.cap) rfl)
          | ((with_reducible refine at_load rt6 w.heap.size (i6 r) ?_ ?_ (.tmp 1) ?_ ?_ ?_ ?_); exact K1.out.bx 0 _ _ _ rfl; rfl; rfl; rfl; rfl)
          | ((with_reducible refine gen_world (w.alloc (.cells (i6 r) 49)) (Fm w [(w.heap.size, i6 r, 49)]) hB.out ?_); intro y K1; have d0 := (K1.out.bx 0 _ _ _ rfl).c 0 (.int .u8 r.k) rfl; have d1 := (K1.out.bx 0 _ _ _ rfl).c 1 (.string r.n) rfl; have d2 := (K1.out.bx 0 _ _ _ rfl).c 2 (.int .i64 r.a) rfl; have d3 := (K1.out.bx 0 _ _ _ rfl).c 3 (.string r.l) rfl; have d4 := (K1.out.bx 0 _ _ _ rfl).c 4 (.int .u8 r.p) rfl; have d5 := (K1.out.bx 0 _ _ _ rfl).c 5 (.slice r.sp r.m r.cap) rfl))
        (try simp only [Exit.inBlock, Exit.then])
        refine bodyPost_ret (by simp [results, Tryd.results56, go_sem]; try rfl) rfl ?_
        exact ⟨tup_ret e2.out.symm e1.out.symm, K2.out.low⟩
      · have k3 : (r.k == 3) = false := by rw [beq_eq_false_iff_ne]; exact h3
        by_cases h5 : r.k = 5
        · have k5 : (r.k == 5) = true := by rw [beq_iff_eq]; exact h5
          have e2 : Hid (S = 2) := by show _ = _; rw [← hS.out]; unfold sizeI; rw [if_pos hm, if_neg h2, if_neg h3, if_pos h5]
          clear hm h2 h3 h5
          go_enter Tryd.func56, Tryd.ntmps56
          go_wp2_with (first
            | (go_at_call 47; refine (hM y (T.out.below K1.out.low)).mono ?_; rintro e y2 ⟨rfl, h2⟩; have K2 : Hid (Fm w [(w.heap.size, i6 r, 49)] y2) := K1.out.below h2; clear d0 d1 d2 d3 d4 d5 h2; have g0 := (K2.out.bx 0 _ _ _ rfl).c 0 (.int .u8 r.k) rfl; have g1 := (K2.out.bx 0 _ _ _ rfl).c 1 (.string r.n) rfl; have g2 := (K2.out.bx 0 _ _ _ rfl).c 2 (.int .i64 r.a) rfl; have g3 := (K2.out.bx 0 _ _ _ rfl).c 3 (.string r.l) rfl; have g4 := (K2.out.bx 0 _ _ _ rfl).c 4 (.int .u8 r.p) rfl; have g5 := (K2.out.bx 0 _ _ _ rfl).c 5 (.slice r.sp r.m r.cap) rfl)
            | ((with_reducible refine at_load rt6 w.heap.size (i6 r) ?_ ?_ (.tmp 1) ?_ ?_ ?_ ?_); exact K1.out.bx 0 _ _ _ rfl; rfl; rfl; rfl; rfl)
            | ((with_reducible refine gen_world (w.alloc (.cells (i6 r) 49)) (Fm w [(w.heap.size, i6 r, 49)]) hB.out ?_); intro y K1; have d0 := (K1.out.bx 0 _ _ _ rfl).c 0 (.int .u8 r.k) rfl; have d1 := (K1.out.bx 0 _ _ _ rfl).c 1 (.string r.n) rfl; have d2 := (K1.out.bx 0 _ _ _ rfl).c 2 (.int .i64 r.a) rfl; have d3 := (K1.out.bx 0 _ _ _ rfl).c 3 (.string r.l) rfl; have d4 := (K1.out.bx 0 _ _ _ rfl).c 4 (.int .u8 r.p) rfl; have d5 := (K1.out.bx 0 _ _ _ rfl).c 5 (.slice r.sp r.m r.cap) rfl))
          (try simp only [Exit.inBlock, Exit.then])
          refine bodyPost_ret (by simp [results, Tryd.results56, go_sem]; try rfl) rfl ?_
          exact ⟨tup_ret e2.out.symm e1.out.symm, K2.out.low⟩
        · have k5 : (r.k == 5) = false := by rw [beq_eq_false_iff_ne]; exact h5
          have e2 : Hid (S = 0) := by show _ = _; rw [← hS.out]; unfold sizeI; rw [if_pos hm, if_neg h2, if_neg h3, if_neg h5]
          clear hm h2 h3 h5
          go_enter Tryd.func56, Tryd.ntmps56
          go_wp2_with (first
            | (go_at_call 47; refine (hM y (T.out.below K1.out.low)).mono ?_; rintro e y2 ⟨rfl, h2⟩; have K2 : Hid (Fm w [(w.heap.size, i6 r, 49)] y2) := K1.out.below h2; clear d0 d1 d2 d3 d4 d5 h2; have g0 := (K2.out.bx 0 _ _ _ rfl).c 0 (.int .u8 r.k) rfl; have g1 := (K2.out.bx 0 _ _ _ rfl).c 1 (.string r.n) rfl; have g2 := (K2.out.bx 0 _ _ _ rfl).c 2 (.int .i64 r.a) rfl; have g3 := (K2.out.bx 0 _ _ _ rfl).c 3 (.string r.l) rfl; have g4 := (K2.out.bx 0 _ _ _ rfl).c 4 (.int .u8 r.p) rfl; have g5 := (K2.out.bx 0 _ _ _ rfl).c 5 (.slice r.sp r.m r.cap) rfl)
            | ((with_reducible refine at_load rt6 w.heap.size (i6 r) ?_ ?_ (.tmp 1) ?_ ?_ ?_ ?_); exact K1.out.bx 0 _ _ _ rfl; rfl; rfl; rfl; rfl)
            | ((with_reducible refine gen_world (w.alloc (.cells (i6 r) 49)) (Fm w [(w.heap.size, i6 r, 49)]) hB.out ?_); intro y K1; have d0 := (K1.out.bx 0 _ _ _ rfl).c 0 (.int .u8 r.k) rfl; have d1 := (K1.out.bx 0 _ _ _ rfl).c 1 (.string r.n) rfl; have d2 := (K1.out.bx 0 _ _ _ rfl).c 2 (.int .i64 r.a) rfl; have d3 := (K1.out.bx 0 _ _ _ rfl).c 3 (.string r.l) rfl; have d4 := (K1.out.bx 0 _ _ _ rfl).c 4 (.int .u8 r.p) rfl; have d5 := (K1.out.bx 0 _ _ _ rfl).c 5 (.slice r.sp r.m r.cap) rfl))
          (try simp only [Exit.inBlock, Exit.then])
          refine bodyPost_ret (by simp [results, Tryd.results56, go_sem]; try rfl) rfl ?_
          exact ⟨tup_ret e2.out.symm e1.out.symm, K2.out.low⟩
  · have e1 : Hid (E = 130) := by show _ = _; rw [← hE.out]; unfold sizeE; rw [if_neg hm]
    have e2 : Hid (S = 0) := by show _ = _; rw [← hS.out]; unfold sizeI; rw [if_neg hm]
    rw [Bool.eq_false_iff.2 hm] at hM
    clear hm
    go_enter Tryd.func56, Tryd.ntmps56
    go_wp2_with (first
      | (go_at_call 47; refine (hM y (T.out.below K1.out.low)).mono ?_; rintro e y2 ⟨rfl, h2⟩; have K2 : Hid (Fm w [(w.heap.size, i6 r, 49)] y2) := K1.out.below h2; clear d0 d1 d2 d3 d4 d5 h2; have g0 := (K2.out.bx 0 _ _ _ rfl).c 0 (.int .u8 r.k) rfl; have g1 := (K2.out.bx 0 _ _ _ rfl).c 1 (.string r.n) rfl; have g2 := (K2.out.bx 0 _ _ _ rfl).c 2 (.int .i64 r.a) rfl; have g3 := (K2.out.bx 0 _ _ _ rfl).c 3 (.string r.l) rfl; have g4 := (K2.out.bx 0 _ _ _ rfl).c 4 (.int .u8 r.p) rfl; have g5 := (K2.out.bx 0 _ _ _ rfl).c 5 (.slice r.sp r.m r.cap) rfl)
      | ((with_reducible refine at_load rt6 w.heap.size (i6 r) ?_ ?_ (.tmp 1) ?_ ?_ ?_ ?_); exact K1.out.bx 0 _ _ _ rfl; rfl; rfl; rfl; rfl)
      | ((with_reducible refine gen_world (w.alloc (.cells (i6 r) 49)) (Fm w [(w.heap.size, i6 r, 49)]) hB.out ?_); intro y K1; have d0 := (K1.out.bx 0 _ _ _ rfl).c 0 (.int .u8 r.k) rfl; have d1 := (K1.out.bx 0 _ _ _ rfl).c 1 (.string r.n) rfl; have d2 := (K1.out.bx 0 _ _ _ rfl).c 2 (.int .i64 r.a) rfl; have d3 := (K1.out.bx 0 _ _ _ rfl).c 3 (.string r.l) rfl; have d4 := (K1.out.bx 0 _ _ _ rfl).c 4 (.int .u8 r.p) rfl; have d5 := (K1.out.bx 0 _ _ _ rfl).c 5 (.slice r.sp r.m r.cap) rfl))
    (try simp only [Exit.inBlock, Exit.then])
    refine bodyPost_ret (by simp [results, Tryd.results56, go_sem]; try rfl) rfl ?_
    exact ⟨tup_ret e2.out.symm e1.out.symm, K2.out.low⟩

def z0 : Ri := ⟨0, ⟨#[]⟩, 0, ⟨#[]⟩, 0, none, 0, 0⟩
theorem one6 (r : Ri) : (i6 r).all (·.oneCell') = true := by simp [i6, Value.oneCell']
theorem pcheck_any (w : World) (sp : Option Addr) (cap : Nat) (l : List Ri) (hl : Hid (LI w sp l)) (hn : l.length ≤ 9223372036854775807) (T : Hid (Tabs w)) :
    Calls Tryd.prog 34 #[.slice sp l.length cap] w fun e w' => e = .returned (.tuple #[.int .i64 (checkE l), .int .i64 (checkN l)]) ∧ Below w.heap.size w w' := by
  obtain ⟨n, hn'⟩ : ∃ n, l.length = n := ⟨_, rfl⟩
  have ni : (n : Int) ≤ 9223372036854775807 := by omega
  by_cases hbig : 4096 < n
  · have e : checkE l = 2 := by unfold checkE; rw [if_pos (by omega)]
    have e' : checkN l = 0 := by unfold checkN; rw [if_pos (by omega)]
    rw [e, e', hn']
    have q : decide ((4096 : Int) < n) = true := by simp; omega
    clear hbig hn hn' e e'
    go_enter Tryd.func34, Tryd.ntmps34
    go_wp2
    go_ret2
    exact ⟨rfl, Below.refl _ _⟩
  obtain ⟨R, hR⟩ : ∃ R, checkE l = R := ⟨_, rfl⟩
  obtain ⟨N, hN⟩ : ∃ R, checkN l = R := ⟨_, rfl⟩
  have hR' : Hid (R = (if (badI l).isSome then 130 else 0) ∧ N = ((badI l).getD 0 : Nat)) := by
    refine ⟨?_, ?_⟩
    · rw [← hR]
      unfold checkE
      rw [if_neg (by omega)]
    · rw [← hN]
      unfold checkN
      rw [if_neg (by omega)]
  rw [hR, hN, hn']
  have q : decide ((4096 : Int) < n) = false := by simp; omega
  have hl' : Hid (l.length = n) := hn'
  have ni4 : (n : Int) ≤ 4096 := by omega
  clear hR hN hbig hn hn' ni
  go_enter Tryd.func34, Tryd.ntmps34
  go_wp2
  go_loopw [11] (fun i wz => ∃ (j : Nat) (y : World), y = wz ∧ i = .int .i64 (j : Int) ∧ Hid (j ≤ n ∧ ∀ i (hi : i < l.length), i < j → mayI l[i] = true) ∧ Hid (Below w.heap.size w y)) (fun i _ => (n - intOf i).toNat)
  case atStart => exact ⟨0, w, rfl, rfl, ⟨by omega, fun i _ h => absurd h (by omega)⟩, Below.refl _ _⟩
  case round =>
    obtain ⟨j, y, rfl, rfl, J, K⟩ := hrel
    by_cases hlt : j < n
    · have hjl : j < l.length := by rw [hl'.out]; exact hlt
      obtain ⟨gb, ob, rfl, hc0⟩ := hl.out j l[j] (List.getElem?_eq_getElem hjl)
      have hc : Hid (y.rangeAt gb (ob + j * 6) (i6 l[j]).toList) := range_keep hc0 K.out
      clear hc0
      have ij := fun v => idxP (g := gb) (off := ob) (len := n) (cap := cap) Tryd.underlying50 (s := 6) (by kernel_rfl) .i64 j v hlt
      have hji : (j : Int) < n := by omega
      have hlt' : Hid (j < n) := hlt
      have hM := fun v T => maybe_any v l[j] T
      by_cases hb : mayI l[j] = true
      · have fin : Hid (∀ i (hi : i < l.length), i < j + 1 → mayI l[i] = true) := fun i hi h => by
          rcases Nat.lt_succ_iff_lt_or_eq.1 h with h' | rfl
          · exact J.out.2 i hi h'
          · exact hb
        rw [hb] at hM
        generalize l[j] = s at hc hM
        clear hlt hb hjl
        go_wp2_with (first
          | (go_at_call 47; refine (hM y2 (T.out.below (K.out.trans (K2.out.low.mono K.out.size)))).mono ?_; rintro e y3 ⟨rfl, h3⟩; have U2 : Hid (Below w.heap.size w y3) := K.out.trans ((K2.out.low.trans (h3.mono K2.out.low.size)).mono K.out.size); clear h3)
          | ((with_reducible refine at_load rt6 y.heap.size (i6 s) ?_ ?_ (.tmp 5) ?_ ?_ ?_ ?_); exact K2.out.bx 0 _ _ _ rfl; rfl; rfl; rfl; rfl)
          | ((with_reducible refine at_st rt6 y.heap.size (i6 z0) (i6 s) ?_ ?_ ?_ ?_ (.tmp 5) (.tmp 15) ?_ ?_ ?_ ?_ ?_); exact alloc_last' y _; rfl; rfl; exact one6 _; rfl; rfl; rfl; rfl; intro y2 hw2; have K2 : Hid (Fm y [(y.heap.size, i6 s, 49)] y2) := (Fm.one y (i6 z0) 49).put 0 _ _ _ _ rfl hw2.out; clear hw2)
          | ((with_reducible refine at_loadm rt6 gb (ob + j * 6) (i6 s) ?_ ?_ (.tmp 14) ?_ ?_ ?_ ?_); exact hc.out; rfl; kernel_rfl; rfl; rfl))
        go_roundw
        case rel => exact ⟨j + 1, _, rfl, by simp, ⟨by have := hlt'.out; omega, fin.out⟩, U2⟩
        case measure => have := hlt'.out; simp [intOf]; omega
      · have fin : Hid (R = 130 ∧ N = (j : Int)) := by
          have hb' := badI_some J.out.2 hjl (Bool.eq_false_iff.2 hb)
          obtain ⟨r1, r2⟩ := hR'.out
          rw [hb'] at r1 r2
          exact ⟨r1, r2⟩
        rw [Bool.eq_false_iff.2 hb] at hM
        generalize l[j] = s at hc hM
        clear hlt hb hjl
        go_wp2_with (first
          | (go_at_call 47; refine (hM y2 (T.out.below (K.out.trans (K2.out.low.mono K.out.size)))).mono ?_; rintro e y3 ⟨rfl, h3⟩; have U2 : Hid (Below w.heap.size w y3) := K.out.trans ((K2.out.low.trans (h3.mono K2.out.low.size)).mono K.out.size); clear h3)
          | ((with_reducible refine at_load rt6 y.heap.size (i6 s) ?_ ?_ (.tmp 5) ?_ ?_ ?_ ?_); exact K2.out.bx 0 _ _ _ rfl; rfl; rfl; rfl; rfl)
          | ((with_reducible refine at_st rt6 y.heap.size (i6 z0) (i6 s) ?_ ?_ ?_ ?_ (.tmp 5) (.tmp 15) ?_ ?_ ?_ ?_ ?_); exact alloc_last' y _; rfl; rfl; exact one6 _; rfl; rfl; rfl; rfl; intro y2 hw2; have K2 : Hid (Fm y [(y.heap.size, i6 s, 49)] y2) := (Fm.one y (i6 z0) 49).put 0 _ _ _ _ rfl hw2.out; clear hw2)
          | ((with_reducible refine at_loadm rt6 gb (ob + j * 6) (i6 s) ?_ ?_ (.tmp 14) ?_ ?_ ?_ ?_); exact hc.out; rfl; kernel_rfl; rfl; rfl))
        go_ret2
        exact ⟨tup_ret fin.out.1.symm fin.out.2.symm, U2.out⟩
    · have hje : j = n := by have := J.out.1; omega
      subst hje
      have fin : Hid (R = 0 ∧ N = 0) := by
        have hb' := badI_none (l := l) fun i hi => J.out.2 i hi (by rw [← hl'.out]; exact hi)
        obtain ⟨r1, r2⟩ := hR'.out
        rw [hb'] at r1 r2
        exact ⟨r1, r2⟩
      clear hlt
      go_wp2
      go_ret2
      exact ⟨tup_ret fin.out.1.symm fin.out.2.symm, K.out⟩
end Go.Proofs.YtkpfhnogpcigaaaDoorR
