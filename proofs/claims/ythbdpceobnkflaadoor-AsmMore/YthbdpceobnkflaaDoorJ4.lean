/- code.Encode and code.Decode, whole, over the plain mathematics of the ops. code.Print: what it returns of every instruction. code.Print, code.cut and code.Parse, whole; a line that was printed is read again. An instruction that can be encoded is what its bytes are read as, whatever stands behind them. An item of a source: which may be, by plain mathematics and by the document. What a label's name is, which part a form takes, an item without anything: the program's. -/
import Derived.Test.YthbdpceobnkflaaDoorJ2
import Derived.Test.YthbdpceobnkflaaDoorJ3
import Derived.Test.YthbdpceobnkflaaDoorRows
import Derived.WalkKit
import Derived.WalkSpells
import Derived.WalkLawsBesides
import Derived.Deep.QuietTactic
import Derived.Deep.OwnRows
import Derived.Laws.IdiomStrings
import Derived.Laws.AppendOwn
import Derived.Test.YthbdpceobnkflaaDoorJ1
namespace Go.Proofs.YthbdpceobnkflaaDoor
open Go.RowKit
set_option linter.unusedVariables false
set_option maxHeartbeats 400000

/-- Which operands an op's instruction may have, and its bytes. -/
def may (n : Nat) (A : Int) : Prop := (held n (fm n) : Int) ≤ A ∧ A ≤ (lay (fm n * 3 + 2) : Nat)
def encB (n : Nat) (A : Int) : List Int := if fm n ≤ 1 then [(n : Int)] else if fm n ≤ 3 then [(n : Int) + (A - held n (fm n))] else if fm n ≤ 5 then [(n : Int), A] else [(n : Int), A / 256, A % 256]

theorem enc_bad (S : ByteArray) (A : Int) (n : Nat) (ho : opOf S = some n) (h : ¬ may n A) (w : World) (T : Tabs w) :
    Calls Tryd.prog 31 #[.agg #[.string S, .int .i64 A]] w fun e w' => e = .returned (.tuple #[.slice none 0 0, .int .i64 21]) ∧ Below w.heap.size w w' := by
  have hn := (opOf_lt ho).1
  have hf := fm_le n hn
  unfold may at h
  have l1 : lay (1 * 3 + 2) = 0 := by decide
  have l2 : lay (2 * 3 + 2) = 15 := by decide
  have l3 : lay (3 * 3 + 2) = 7 := by decide
  have l4 : lay (4 * 3 + 2) = 255 := by decide
  have l5 : lay (5 * 3 + 2) = 255 := by decide
  have l6 : lay (6 * 3 + 2) = 65535 := by decide
  have hd : fm n = 1 ∨ fm n = 2 ∨ fm n = 3 ∨ fm n = 4 ∨ fm n = 5 ∨ fm n = 6 := by omega
  rcases hd with e | e | e | e | e | e
  all_goals rw [e] at h
  · by_cases hl : A < (held n 1 : Nat)
    · exact enc_lo1 S A n _ _ _ _ ho (show nm n = nm n from rfl) e (show lay (fm n * 3) = lay (fm n * 3) from rfl) (show cyc n = cyc n from rfl) (show held n 1 = held n 1 from rfl) hl w T
    · exact enc_hi1 S A n _ _ _ _ ho (show nm n = nm n from rfl) e (show lay (fm n * 3) = lay (fm n * 3) from rfl) (show cyc n = cyc n from rfl) (show held n 1 = held n 1 from rfl) hl (by omega) w T
  · by_cases hl : A < (held n 2 : Nat)
    · exact enc_lo2 S A n _ _ _ _ ho (show nm n = nm n from rfl) e (show lay (fm n * 3) = lay (fm n * 3) from rfl) (show cyc n = cyc n from rfl) (show held n 2 = held n 2 from rfl) hl w T
    · exact enc_hi2 S A n _ _ _ _ ho (show nm n = nm n from rfl) e (show lay (fm n * 3) = lay (fm n * 3) from rfl) (show cyc n = cyc n from rfl) (show held n 2 = held n 2 from rfl) hl (by omega) w T
  · by_cases hl : A < (held n 3 : Nat)
    · exact enc_lo3 S A n _ _ _ _ ho (show nm n = nm n from rfl) e (show lay (fm n * 3) = lay (fm n * 3) from rfl) (show cyc n = cyc n from rfl) (show held n 3 = held n 3 from rfl) hl w T
    · exact enc_hi3 S A n _ _ _ _ ho (show nm n = nm n from rfl) e (show lay (fm n * 3) = lay (fm n * 3) from rfl) (show cyc n = cyc n from rfl) (show held n 3 = held n 3 from rfl) hl (by omega) w T
  · by_cases hl : A < (held n 4 : Nat)
    · exact enc_lo4 S A n _ _ _ _ ho (show nm n = nm n from rfl) e (show lay (fm n * 3) = lay (fm n * 3) from rfl) (show cyc n = cyc n from rfl) (show held n 4 = held n 4 from rfl) hl w T
    · exact enc_hi4 S A n _ _ _ _ ho (show nm n = nm n from rfl) e (show lay (fm n * 3) = lay (fm n * 3) from rfl) (show cyc n = cyc n from rfl) (show held n 4 = held n 4 from rfl) hl (by omega) w T
  · by_cases hl : A < (held n 5 : Nat)
    · exact enc_lo5 S A n _ _ _ _ ho (show nm n = nm n from rfl) e (show lay (fm n * 3) = lay (fm n * 3) from rfl) (show cyc n = cyc n from rfl) (show held n 5 = held n 5 from rfl) hl w T
    · exact enc_hi5 S A n _ _ _ _ ho (show nm n = nm n from rfl) e (show lay (fm n * 3) = lay (fm n * 3) from rfl) (show cyc n = cyc n from rfl) (show held n 5 = held n 5 from rfl) hl (by omega) w T
  · by_cases hl : A < (held n 6 : Nat)
    · exact enc_lo6 S A n _ _ _ _ ho (show nm n = nm n from rfl) e (show lay (fm n * 3) = lay (fm n * 3) from rfl) (show cyc n = cyc n from rfl) (show held n 6 = held n 6 from rfl) hl w T
    · exact enc_hi6 S A n _ _ _ _ ho (show nm n = nm n from rfl) e (show lay (fm n * 3) = lay (fm n * 3) from rfl) (show cyc n = cyc n from rfl) (show held n 6 = held n 6 from rfl) hl (by omega) w T

/-- What a good call of Encode leaves: new bytes, all else as it was. -/
def Coded (w : World) (l : List Int) (e : Ending) (w' : World) : Prop :=
  ∃ b, w.heap.size ≤ b ∧ e = .returned (.tuple #[.slice (some ⟨b, 0, none⟩) l.length l.length, .int .i64 0]) ∧ w'.heap[b]? = some (.cells (l.map (Value.int .u8)).toArray 5) ∧ Below w.heap.size w w'

theorem held_lt (n f : Nat) : held n f ≤ 15 ∧ (f = 3 → held n f ≤ 7) ∧ (f = 2 → held n f = n % 16) ∧ (f = 3 → held n f = n % 8) ∧ (f ≠ 2 → f ≠ 3 → held n f = 0) := by
  unfold held
  refine ⟨?_, ?_, ?_, ?_, ?_⟩
  · split
    · omega
    · split <;> omega
  · rintro rfl; simp; omega
  · rintro rfl; simp
  · rintro rfl; simp
  · intro a b; rw [if_neg a, if_neg b]

theorem enc_good (S : ByteArray) (A : Int) (n : Nat) (ho : opOf S = some n) (h : may n A) (w : World) (T : Tabs w) :
    Calls Tryd.prog 31 #[.agg #[.string S, .int .i64 A]] w (Coded w (encB n A)) := by
  have hn := (opOf_lt ho).1
  have hf := fm_le n hn
  unfold may at h
  have l1 : lay (1 * 3 + 2) = 0 := by decide
  have l2 : lay (2 * 3 + 2) = 15 := by decide
  have l3 : lay (3 * 3 + 2) = 7 := by decide
  have l4 : lay (4 * 3 + 2) = 255 := by decide
  have l5 : lay (5 * 3 + 2) = 255 := by decide
  have l6 : lay (6 * 3 + 2) = 65535 := by decide
  have hd : fm n = 1 ∨ fm n = 2 ∨ fm n = 3 ∨ fm n = 4 ∨ fm n = 5 ∨ fm n = 6 := by omega
  unfold encB Coded
  have hh := held_lt n (fm n)
  rcases hd with e | e | e | e | e | e
  all_goals rw [e] at h hh ⊢
  · exact enc_ok1 S A n _ _ _ _ ho (show nm n = nm n from rfl) e (show lay (fm n * 3) = lay (fm n * 3) from rfl) (show cyc n = cyc n from rfl) (show held n 1 = held n 1 from rfl) (by omega) (by omega) w T
  · exact enc_ok2 S A n _ _ _ _ ho (show nm n = nm n from rfl) e (show lay (fm n * 3) = lay (fm n * 3) from rfl) (show cyc n = cyc n from rfl) (show held n 2 = held n 2 from rfl) (by omega) (by omega) (by omega) w T
  · exact enc_ok3 S A n _ _ _ _ ho (show nm n = nm n from rfl) e (show lay (fm n * 3) = lay (fm n * 3) from rfl) (show cyc n = cyc n from rfl) (show held n 3 = held n 3 from rfl) (by omega) (by omega) (by omega) w T
  · exact enc_ok4 S A n _ _ _ _ ho (show nm n = nm n from rfl) e (show lay (fm n * 3) = lay (fm n * 3) from rfl) (show cyc n = cyc n from rfl) (show held n 4 = held n 4 from rfl) (by omega) (by omega) w T
  · exact enc_ok5 S A n _ _ _ _ ho (show nm n = nm n from rfl) e (show lay (fm n * 3) = lay (fm n * 3) from rfl) (show cyc n = cyc n from rfl) (show held n 5 = held n 5 from rfl) (by omega) (by omega) w T
  · exact enc_ok6 S A n _ _ _ _ ho (show nm n = nm n from rfl) e (show lay (fm n * 3) = lay (fm n * 3) from rfl) (show cyc n = cyc n from rfl) (show held n 6 = held n 6 from rfl) (by omega) (by omega) w T

end Go.Proofs.YthbdpceobnkflaaDoor

namespace Go.Proofs.YthbdpceobnkflaaDoor
open Go.RowKit
set_option linter.unusedVariables false
set_option maxHeartbeats 1000000
set_option maxRecDepth 20000

theorem cat_run (P : Program) (a b : ByteArray) (w : World) (h : a.size + b.size < 1000) : (Op.stringOp .add a b).run P w = .ok (.string (a ++ b)) w := by
  simp [Op.stringOp, go_sem]
  omega
end Go.Proofs.YthbdpceobnkflaaDoor

namespace Go.Proofs.YthbdpceobnkflaaDoor
open Go.RowKit
set_option linter.unusedVariables false
set_option maxHeartbeats 400000

def mayB (n : Nat) (A : Int) : Bool := decide ((held n (fm n) : Int) ≤ A) && decide (A ≤ (lay (fm n * 3 + 2) : Nat))
theorem mayB_iff (n : Nat) (A : Int) : mayB n A = true ↔ may n A := by unfold mayB may; simp
end Go.Proofs.YthbdpceobnkflaaDoor

namespace Go.Proofs.YthbdpceobnkflaaDoor
open Go.RowKit
set_option linter.unusedVariables false
set_option maxHeartbeats 400000

theorem encB_len (n : Nat) (hn : n < 256) (A : Int) : (encB n A).length = by1 n := by
  have hy := by1_eq n hn
  have hf := fm_le n hn
  have hd : fm n = 1 ∨ fm n = 2 ∨ fm n = 3 ∨ fm n = 4 ∨ fm n = 5 ∨ fm n = 6 := by omega
  unfold encB
  rcases hd with e | e | e | e | e | e <;> rw [e] at hy ⊢ <;> simp at hy ⊢ <;> omega
end Go.Proofs.YthbdpceobnkflaaDoor

namespace Go.Proofs.YthbdpceobnkflaaDoor
open Go Go.RowKit
set_option linter.unusedVariables false
set_option maxHeartbeats 3000000
set_option maxRecDepth 20000

/-- An item as it lies in memory: its bytes lie elsewhere. -/
structure Ri where
  k : Int
  n : ByteArray
  a : Int
  l : ByteArray
  p : Int
  sp : Option Addr
  m : Nat
  cap : Nat
def i6 (r : Ri) : Array Value := #[.int .u8 r.k, .string r.n, .int .i64 r.a, .string r.l, .int .u8 r.p, .slice r.sp r.m r.cap]
def lowI (n : ByteArray) (f : Nat) : Int := if f = 2 then (if n = ⟨#[76, 68, 78]⟩ then 1 else 0) else if f = 3 then 1 else 0
def highI (f : Nat) : Int := if f = 2 then 15 else if f = 3 then 7 else if f = 4 ∨ f = 5 then 255 else if f = 6 then 65535 else 0
/-- May an instruction of a source be so? -/
def codeF (f : Nat) (r : Ri) : Bool := decide (r.m = 0) && (if r.p = 0 then decide (r.l.size = 0) && (decide (lowI r.n f ≤ r.a) && decide (r.a ≤ highI f)) else isNm r.l && (decide (r.a = 0) && (if f = 4 then decide (r.p = 2 ∨ r.p = 3) else if f = 5 ∨ f = 6 then decide (r.p = 1) else false)))
def codeI (r : Ri) : Bool := match opOf r.n with | none => false | some n => codeF (fm n) r
/-- May an item be? -/
def mayI (r : Ri) : Bool := if r.k = 2 then codeI r else if r.p ≠ 0 then false
  else if r.k = 1 then isNm r.n && (decide (r.a = 0) && (decide (r.l.size = 0) && decide (r.m = 0)))
  else if r.k = 3 then decide (r.n.size = 0) && (decide (r.a = 0) && (decide (r.l.size = 0) && (decide (1 ≤ r.m) && decide (r.m ≤ 256))))
  else if r.k = 4 then decide (r.n.size = 0) && (decide (r.l.size = 0) && (decide (r.m = 0) && (decide (0 ≤ r.a) && decide (r.a ≤ 65535))))
  else if r.k = 5 then isNm r.l && (decide (r.n.size = 0) && (decide (r.a = 0) && decide (r.m = 0)))
  else false
theorem rtI : Rt Tryd.prog 82 4 := ⟨⟨_, Tryd.underlying82, rfl⟩, by kernel_rfl⟩
theorem rt6 : Rt Tryd.prog 40 6 := ⟨⟨_, Tryd.underlying40, rfl⟩, by kernel_rfl⟩

end Go.Proofs.YthbdpceobnkflaaDoor

namespace Go.Proofs.YthbdpceobnkflaaDoor
open Go Go.RowKit
set_option linter.unusedVariables false
set_option maxHeartbeats 3000000
set_option maxRecDepth 20000

theorem letter_yes (x : Int) (w : World) (h1 : 97 ≤ x) (h2 : x ≤ 122) : Calls Tryd.prog 58 #[.int .u8 x] w fun e w' => e = .returned (.bool true) ∧ w' = w := by
  go_enter Tryd.func58, Tryd.ntmps58
  go_wp2
  go_ret
  exact ⟨rfl, rfl⟩
theorem letter_no (x : Int) (w : World) (h : x < 97 ∨ 122 < x) : Calls Tryd.prog 58 #[.int .u8 x] w fun e w' => e = .returned (.bool false) ∧ w' = w := by
  by_cases h1 : x < 97
  · have h' : ¬ 97 ≤ x := by omega
    clear h h1
    go_enter Tryd.func58, Tryd.ntmps58
    go_wp2
    go_ret
    exact ⟨rfl, rfl⟩
  · have h1' : 97 ≤ x := by omega
    have h2 : ¬ x ≤ 122 := by omega
    clear h h1
    go_enter Tryd.func58, Tryd.ntmps58
    go_wp2
    go_ret
    exact ⟨rfl, rfl⟩
theorem dig_yes (x : Int) (w : World) (h1 : 48 ≤ x) (h2 : x ≤ 57) : Calls Tryd.prog 59 #[.int .u8 x] w fun e w' => e = .returned (.bool true) ∧ w' = w := by
  go_enter Tryd.func59, Tryd.ntmps59
  go_wp2
  go_ret
  exact ⟨rfl, rfl⟩
theorem dig_no (x : Int) (w : World) (h : x < 48 ∨ 57 < x) : Calls Tryd.prog 59 #[.int .u8 x] w fun e w' => e = .returned (.bool false) ∧ w' = w := by
  by_cases h1 : x < 48
  · have h' : ¬ 48 ≤ x := by omega
    clear h h1
    go_enter Tryd.func59, Tryd.ntmps59
    go_wp2
    go_ret
    exact ⟨rfl, rfl⟩
  · have h1' : 48 ≤ x := by omega
    have h2 : ¬ x ≤ 57 := by omega
    clear h h1
    go_enter Tryd.func59, Tryd.ntmps59
    go_wp2
    go_ret
    exact ⟨rfl, rfl⟩

theorem pisname_any (s : ByteArray) (w : World) : Calls Tryd.prog 46 #[.string s] w fun e w' => e = .returned (.bool (isNm s)) ∧ w' = w := by
  obtain ⟨b, hb⟩ : ∃ b, Hid (isNm s = b) := ⟨_, (rfl : isNm s = isNm s)⟩
  rw [hb.out]
  by_cases h0 : s.size = 0
  · have fin : Hid (isNm s = false) := decide_eq_false fun h => by omega
    have hp : (s.size : Int) < 1 := by omega
    clear h0
    go_enter Tryd.func46, Tryd.ntmps46
    go_wp2
    go_ret
    exact ⟨bool_ret (by rw [← hb.out, fin.out]), rfl⟩
  have hp : (0 : Int) < s.size := by omega
  have hp1 : ¬ (s.size : Int) < 1 := by omega
  by_cases h1 : s.size ≤ 16
  · have h1i : (s.size : Int) ≤ 16 := by omega
    have h1n : ¬ (16 : Int) < s.size := by omega
    by_cases h2 : 97 ≤ (s[0]'(by omega)).toNat ∧ (s[0]'(by omega)).toNat ≤ 122
    · have hL0 := fun v => letter_yes ((s[0]'(by omega)).toNat : Int) v (by omega) (by omega)
      have h2' : Hid (97 ≤ (s[0]'(by omega)).toNat ∧ (s[0]'(by omega)).toNat ≤ 122) := h2
      clear h2
      go_enter Tryd.func46, Tryd.ntmps46
      go_wp2_with (go_at_call 58; refine (hL0 _).mono ?_; rintro e y ⟨rfl, rfl⟩)
      go_loopw [20] (fun i wz => ∃ p : Nat, p ≤ s.size ∧ i = .int .i64 (p : Int) ∧ Hid (∀ j (h : j < s.size), j < p → nmc (s[j]'h) = true) ∧ wz = y) (fun i _ => (s.size - intOf i).toNat)
      case atStart => exact ⟨0, by omega, rfl, (fun j _ h => absurd h (by omega) : ∀ j (h : j < s.size), j < 0 → nmc (s[j]'h) = true), rfl⟩
      case round =>
        obtain ⟨p, hps, rfl, J, rfl⟩ := hrel
        by_cases hlt : p < s.size
        · have hpi : (p : Int) < s.size := by omega
          have hlt' : Hid (p < s.size) := hlt
          by_cases hn : nmc (s[p]'hlt) = true
          · have fin : Hid (∀ j (h : j < s.size), j < p + 1 → nmc (s[j]'h) = true) := fun j h hj => by
              rcases Nat.lt_succ_iff_lt_or_eq.1 hj with h' | rfl
              · exact J.out j h h'
              · exact hn
            have hn' := of_decide_eq_true hn
            replace hn : Hid _ := hn
            rcases (show (97 : Int) ≤ ((s[p]'hlt).toNat : Int) ∧ ((s[p]'hlt).toNat : Int) ≤ 122 ∨ (48 : Int) ≤ ((s[p]'hlt).toNat : Int) ∧ ((s[p]'hlt).toNat : Int) ≤ 57 ∨ ((s[p]'hlt).toNat : Int) = 45 by omega) with k | k | k
            · have hL := fun v => letter_yes ((s[p]'hlt).toNat : Int) v k.1 k.2
              clear hn' k
              go_wp2_with (go_at_call 58; refine (hL _).mono ?_; rintro e y2 ⟨rfl, rfl⟩)
              go_roundw
              case rel => exact ⟨p + 1, by have := hlt'.out; omega, by simp, fin, by first | trivial | rfl⟩
              case measure => have := hlt'.out; simp [intOf]; omega
            · have hL := fun v => letter_no ((s[p]'hlt).toNat : Int) v (by omega)
              have hD := fun v => dig_yes ((s[p]'hlt).toNat : Int) v k.1 k.2
              clear hn' k
              go_wp2_with (first | (go_at_call 58; refine (hL _).mono ?_; rintro e y2 ⟨rfl, rfl⟩) | (go_at_call 59; refine (hD _).mono ?_; rintro e y3 ⟨rfl, rfl⟩))
              go_roundw
              case rel => exact ⟨p + 1, by have := hlt'.out; omega, by simp, fin, by first | trivial | rfl⟩
              case measure => have := hlt'.out; simp [intOf]; omega
            · have hL := fun v => letter_no ((s[p]'hlt).toNat : Int) v (by omega)
              have hD := fun v => dig_no ((s[p]'hlt).toNat : Int) v (by omega)
              have e_e : (((s[p]'hlt).toNat : Int) != 45) = false := by rw [bne_eq_false_iff_eq]; omega
              clear hn' k
              go_wp2_with (first | (go_at_call 58; refine (hL _).mono ?_; rintro e y2 ⟨rfl, rfl⟩) | (go_at_call 59; refine (hD _).mono ?_; rintro e y3 ⟨rfl, rfl⟩))
              go_roundw
              case rel => exact ⟨p + 1, by have := hlt'.out; omega, by simp, fin, by first | trivial | rfl⟩
              case measure => have := hlt'.out; simp [intOf]; omega
          · have fin : Hid (isNm s = false) := decide_eq_false fun h => hn (h.2.2.2 p hlt)
            have hn' : ¬ ((97 ≤ (s[p]'hlt).toNat ∧ (s[p]'hlt).toNat ≤ 122) ∨ (48 ≤ (s[p]'hlt).toNat ∧ (s[p]'hlt).toNat ≤ 57) ∨ (s[p]'hlt).toNat = 45) := fun h => hn (decide_eq_true h)
            replace hn : Hid _ := hn
            have hL := fun v => letter_no ((s[p]'hlt).toNat : Int) v (by omega)
            have hD := fun v => dig_no ((s[p]'hlt).toNat : Int) v (by omega)
            have e_e : (((s[p]'hlt).toNat : Int) != 45) = true := by rw [bne_iff_ne]; omega
            clear hn'
            go_wp2_with (first | (go_at_call 58; refine (hL _).mono ?_; rintro e y2 ⟨rfl, rfl⟩) | (go_at_call 59; refine (hD _).mono ?_; rintro e y3 ⟨rfl, rfl⟩))
            go_ret
            exact ⟨bool_ret (by rw [← hb.out, fin.out]), rfl⟩
        · have hpe : p = s.size := by omega
          subst hpe
          go_wp2
          go_ret
          exact ⟨bool_ret (by rw [← hb.out]; exact (decide_eq_true ⟨by omega, h1, ⟨by omega, h2'.out⟩, fun j h => J.out j h h⟩).symm), rfl⟩
    · have fin : Hid (isNm s = false) := decide_eq_false fun h => h2 h.2.2.1.2
      have hL0 := fun v => letter_no ((s[0]'(by omega)).toNat : Int) v (by omega)
      clear h2
      go_enter Tryd.func46, Tryd.ntmps46
      go_wp2_with (go_at_call 58; refine (hL0 _).mono ?_; rintro e y ⟨rfl, rfl⟩)
      go_ret
      exact ⟨bool_ret (by rw [← hb.out, fin.out]), rfl⟩
  · have h1i : (16 : Int) < s.size := by omega
    have fin : Hid (isNm s = false) := decide_eq_false fun h => h1 h.2.1
    go_enter Tryd.func46, Tryd.ntmps46
    go_wp2
    go_ret
    exact ⟨bool_ret (by rw [← hb.out, fin.out]), rfl⟩

/-- Which part stands where a form has its operand. -/
def takesB (f p : Int) : Bool := if f = 4 then decide (p = 2 ∨ p = 3) else if f = 5 ∨ f = 6 then decide (p = 1) else false
theorem takes_any (f p : Int) (w : World) : Calls Tryd.prog 60 #[.int .u8 f, .int .u8 p] w fun e w' => e = .returned (.bool (takesB f p)) ∧ w' = w := by
  obtain ⟨b, hb⟩ : ∃ b, Hid (takesB f p = b) := ⟨_, (rfl : takesB f p = takesB f p)⟩
  rw [hb.out]
  have hb' := hb.out
  unfold takesB at hb'
  by_cases f4 : f = 4
  · rw [if_pos f4] at hb'
    have q4 : (f == 4) = true := by rw [beq_iff_eq]; exact f4
    obtain ⟨b2, q2⟩ : ∃ b, (p == 2) = b := ⟨_, rfl⟩
    obtain ⟨b3, q3⟩ : ∃ b, (p == 3) = b := ⟨_, rfl⟩
    have fin : Hid (b = (b2 || b3)) := by
      show _ = _
      rw [← hb', ← q2, ← q3, Bool.eq_iff_iff]
      simp
    clear hb' hb f4
    cases b2
    all_goals
      go_enter Tryd.func60, Tryd.ntmps60
      go_wp2
      go_ret
      exact ⟨bool_ret (by rw [fin.out]; rfl), rfl⟩
  · rw [if_neg f4] at hb'
    have q4 : (f == 4) = false := by rw [beq_eq_false_iff_ne]; exact f4
    by_cases f5 : f = 5
    · have q5 : (f == 5) = true := by rw [beq_iff_eq]; exact f5
      rw [if_pos (.inl f5)] at hb'
      obtain ⟨b1, q1⟩ : ∃ b, (p == 1) = b := ⟨_, rfl⟩
      have fin : Hid (b = b1) := by
        show _ = _
        rw [← hb', ← q1, Bool.eq_iff_iff]
        simp
      clear hb' hb f4 f5
      go_enter Tryd.func60, Tryd.ntmps60
      go_wp2
      go_ret
      exact ⟨bool_ret fin.out.symm, rfl⟩
    · have q5 : (f == 5) = false := by rw [beq_eq_false_iff_ne]; exact f5
      by_cases f6 : f = 6
      · have q6 : (f == 6) = true := by rw [beq_iff_eq]; exact f6
        rw [if_pos (.inr f6)] at hb'
        obtain ⟨b1, q1⟩ : ∃ b, (p == 1) = b := ⟨_, rfl⟩
        have fin : Hid (b = b1) := by
          show _ = _
          rw [← hb', ← q1, Bool.eq_iff_iff]
          simp
        clear hb' hb f4 f5 f6
        go_enter Tryd.func60, Tryd.ntmps60
        go_wp2
        go_ret
        exact ⟨bool_ret fin.out.symm, rfl⟩
      · have q6 : (f == 6) = false := by rw [beq_eq_false_iff_ne]; exact f6
        rw [if_neg (by rintro (h | h); exact f5 h; exact f6 h)] at hb'
        have fin : Hid (b = false) := hb'.symm
        clear hb' hb f4 f5 f6
        go_enter Tryd.func60, Tryd.ntmps60
        go_wp2
        go_ret
        exact ⟨bool_ret fin.out.symm, rfl⟩

/-- An item that has nothing. -/
def emptyI (r : Ri) : Bool := decide (r.n.size = 0) && (decide (r.a = 0) && (decide (r.l.size = 0) && (decide (r.p = 0) && decide (r.m = 0))))
theorem and5 (b1 b2 b3 b4 b5 : Bool) : b1 = false ∨ (b1 = true ∧ b2 = false) ∨ (b1 = true ∧ b2 = true ∧ b3 = false) ∨ (b1 = true ∧ b2 = true ∧ b3 = true ∧ b4 = false) ∨ (b1 = true ∧ b2 = true ∧ b3 = true ∧ b4 = true ∧ b5 = false) ∨ (b1 = true ∧ b2 = true ∧ b3 = true ∧ b4 = true ∧ b5 = true) := by revert b1 b2 b3 b4 b5; decide
theorem isempty_any (w : World) (r : Ri) : Calls Tryd.prog 48 #[.agg (i6 r)] w fun e w' => e = .returned (.bool (emptyI r)) ∧ Below w.heap.size w w' := by
  have hB : Hid (Fm w [(w.heap.size, i6 r, 40)] (w.alloc (.cells (i6 r) 40))) := Fm.one w _ _
  have q1 := emp_is r.n
  have q3 := emp_is r.l
  have e2 : (r.a == 0) = decide (r.a = 0) := by rw [Bool.eq_iff_iff]; simp
  have e4 : (r.p == 0) = decide (r.p = 0) := by rw [Bool.eq_iff_iff]; simp
  have e5 : ((r.m : Int) == 0) = decide (r.m = 0) := by rw [Bool.eq_iff_iff]; simp
  have fin : Hid (emptyI r = (decide (r.n.size = 0) && (decide (r.a = 0) && (decide (r.l.size = 0) && (decide (r.p = 0) && decide (r.m = 0)))))) := (rfl : emptyI r = _)
  generalize decide (r.n.size = 0) = b1 at q1 fin
  generalize decide (r.a = 0) = b2 at e2 fin
  generalize decide (r.l.size = 0) = b3 at q3 fin
  generalize decide (r.p = 0) = b4 at e4 fin
  generalize decide (r.m = 0) = b5 at e5 fin
  generalize emptyI r = R at fin
  rcases and5 b1 b2 b3 b4 b5 with rfl | ⟨rfl, rfl⟩ | ⟨rfl, rfl, rfl⟩ | ⟨rfl, rfl, rfl, rfl⟩ | ⟨rfl, rfl, rfl, rfl, rfl⟩ | ⟨rfl, rfl, rfl, rfl, rfl⟩
  all_goals
    go_enter Tryd.func48, Tryd.ntmps48
    go_wp2_with ((with_reducible refine gen_world (w.alloc (.cells (i6 r) 40)) (Fm w [(w.heap.size, i6 r, 40)]) hB.out ?_); intro y K1; have d0 := (K1.out.bx 0 _ _ _ rfl).c 0 (.int .u8 r.k) rfl; have d1 := (K1.out.bx 0 _ _ _ rfl).c 1 (.string r.n) rfl; have d2 := (K1.out.bx 0 _ _ _ rfl).c 2 (.int .i64 r.a) rfl; have d3 := (K1.out.bx 0 _ _ _ rfl).c 3 (.string r.l) rfl; have d4 := (K1.out.bx 0 _ _ _ rfl).c 4 (.int .u8 r.p) rfl; have d5 := (K1.out.bx 0 _ _ _ rfl).c 5 (.slice r.sp r.m r.cap) rfl)
    go_ret
    exact ⟨bool_ret (by rw [fin.out]; rfl), K1.out.low⟩
end Go.Proofs.YthbdpceobnkflaaDoor
