/- code.Encode and code.Decode, whole, over the plain mathematics of the ops. -/
import Derived.Test.YtfdjifgmlgpjgabDoorJOEnc
namespace Go.Proofs.YtfdjifgmlgpjgabDoor
open Go.RowKit
set_option linter.unusedVariables false
set_option maxHeartbeats 400000

/-- Which operands an op's instruction may have, and its bytes. -/
def may (n : Nat) (A : Int) : Prop := (held n (fm n) : Int) ≤ A ∧ A ≤ (lay (fm n * 3 + 2) : Nat)
def encB (n : Nat) (A : Int) : List Int := if fm n ≤ 1 then [(n : Int)] else if fm n ≤ 3 then [(n : Int) + (A - held n (fm n))] else if fm n ≤ 5 then [(n : Int), A] else [(n : Int), A / 256, A % 256]

theorem enc_bad (S : ByteArray) (A : Int) (n : Nat) (ho : opOf S = some n) (h : ¬ may n A) (w : World) (T : Tabs w) :
    Calls Tryd.prog 53 #[.agg #[.string S, .int .i64 A]] w fun e w' => e = .returned (.tuple #[.slice none 0 0, .int .i64 21]) ∧ Below w.heap.size w w' := by
  have hn := (opOf_lt ho).1
  have hf := fm_le n hn
  unfold may at h
  have l1 : lay (1 * 3 + 2) = 0 := by decide
  have l2 : lay (2 * 3 + 2) = 15 := by decide
  have l3 : lay (3 * 3 + 2) = 7 := by decide
  have l4 : lay (4 * 3 + 2) = 255 := by decide
  have l5 : lay (5 * 3 + 2) = 255 := by decide
  have l6 : lay (6 * 3 + 2) = 65535 := by decide
  have hd : fm n = 1 ∨ fm n = 2 ∨ fm n = 3 ∨ fm n = 4 ∨ fm n = 5 ∨ fm n = 6 := by omega
  rcases hd with e | e | e | e | e | e
  all_goals rw [e] at h
  · by_cases hl : A < (held n 1 : Nat)
    · exact enc_lo1 S A n _ _ _ _ ho (show nm n = nm n from rfl) e (show lay (fm n * 3) = lay (fm n * 3) from rfl) (show cyc n = cyc n from rfl) (show held n 1 = held n 1 from rfl) hl w T
    · exact enc_hi1 S A n _ _ _ _ ho (show nm n = nm n from rfl) e (show lay (fm n * 3) = lay (fm n * 3) from rfl) (show cyc n = cyc n from rfl) (show held n 1 = held n 1 from rfl) hl (by omega) w T
  · by_cases hl : A < (held n 2 : Nat)
    · exact enc_lo2 S A n _ _ _ _ ho (show nm n = nm n from rfl) e (show lay (fm n * 3) = lay (fm n * 3) from rfl) (show cyc n = cyc n from rfl) (show held n 2 = held n 2 from rfl) hl w T
    · exact enc_hi2 S A n _ _ _ _ ho (show nm n = nm n from rfl) e (show lay (fm n * 3) = lay (fm n * 3) from rfl) (show cyc n = cyc n from rfl) (show held n 2 = held n 2 from rfl) hl (by omega) w T
  · by_cases hl : A < (held n 3 : Nat)
    · exact enc_lo3 S A n _ _ _ _ ho (show nm n = nm n from rfl) e (show lay (fm n * 3) = lay (fm n * 3) from rfl) (show cyc n = cyc n from rfl) (show held n 3 = held n 3 from rfl) hl w T
    · exact enc_hi3 S A n _ _ _ _ ho (show nm n = nm n from rfl) e (show lay (fm n * 3) = lay (fm n * 3) from rfl) (show cyc n = cyc n from rfl) (show held n 3 = held n 3 from rfl) hl (by omega) w T
  · by_cases hl : A < (held n 4 : Nat)
    · exact enc_lo4 S A n _ _ _ _ ho (show nm n = nm n from rfl) e (show lay (fm n * 3) = lay (fm n * 3) from rfl) (show cyc n = cyc n from rfl) (show held n 4 = held n 4 from rfl) hl w T
    · exact enc_hi4 S A n _ _ _ _ ho (show nm n = nm n from rfl) e (show lay (fm n * 3) = lay (fm n * 3) from rfl) (show cyc n = cyc n from rfl) (show held n 4 = held n 4 from rfl) hl (by omega) w T
  · by_cases hl : A < (held n 5 : Nat)
    · exact enc_lo5 S A n _ _ _ _ ho (show nm n = nm n from rfl) e (show lay (fm n * 3) = lay (fm n * 3) from rfl) (show cyc n = cyc n from rfl) (show held n 5 = held n 5 from rfl) hl w T
    · exact enc_hi5 S A n _ _ _ _ ho (show nm n = nm n from rfl) e (show lay (fm n * 3) = lay (fm n * 3) from rfl) (show cyc n = cyc n from rfl) (show held n 5 = held n 5 from rfl) hl (by omega) w T
  · by_cases hl : A < (held n 6 : Nat)
    · exact enc_lo6 S A n _ _ _ _ ho (show nm n = nm n from rfl) e (show lay (fm n * 3) = lay (fm n * 3) from rfl) (show cyc n = cyc n from rfl) (show held n 6 = held n 6 from rfl) hl w T
    · exact enc_hi6 S A n _ _ _ _ ho (show nm n = nm n from rfl) e (show lay (fm n * 3) = lay (fm n * 3) from rfl) (show cyc n = cyc n from rfl) (show held n 6 = held n 6 from rfl) hl (by omega) w T

/-- What a good call of Encode leaves: new bytes, all else as it was. -/
def Coded (w : World) (l : List Int) (e : Ending) (w' : World) : Prop :=
  ∃ b, w.heap.size ≤ b ∧ e = .returned (.tuple #[.slice (some ⟨b, 0, none⟩) l.length l.length, .int .i64 0]) ∧ w'.heap[b]? = some (.cells (l.map (Value.int .u8)).toArray 5) ∧ Below w.heap.size w w'

theorem held_lt (n f : Nat) : held n f ≤ 15 ∧ (f = 3 → held n f ≤ 7) ∧ (f = 2 → held n f = n % 16) ∧ (f = 3 → held n f = n % 8) ∧ (f ≠ 2 → f ≠ 3 → held n f = 0) := by
  unfold held
  refine ⟨?_, ?_, ?_, ?_, ?_⟩
  · split
    · omega
    · split <;> omega
  · rintro rfl; simp; omega
  · rintro rfl; simp
  · rintro rfl; simp
  · intro a b; rw [if_neg a, if_neg b]

theorem enc_good (S : ByteArray) (A : Int) (n : Nat) (ho : opOf S = some n) (h : may n A) (w : World) (T : Tabs w) :
    Calls Tryd.prog 53 #[.agg #[.string S, .int .i64 A]] w (Coded w (encB n A)) := by
  have hn := (opOf_lt ho).1
  have hf := fm_le n hn
  unfold may at h
  have l1 : lay (1 * 3 + 2) = 0 := by decide
  have l2 : lay (2 * 3 + 2) = 15 := by decide
  have l3 : lay (3 * 3 + 2) = 7 := by decide
  have l4 : lay (4 * 3 + 2) = 255 := by decide
  have l5 : lay (5 * 3 + 2) = 255 := by decide
  have l6 : lay (6 * 3 + 2) = 65535 := by decide
  have hd : fm n = 1 ∨ fm n = 2 ∨ fm n = 3 ∨ fm n = 4 ∨ fm n = 5 ∨ fm n = 6 := by omega
  unfold encB Coded
  have hh := held_lt n (fm n)
  rcases hd with e | e | e | e | e | e
  all_goals rw [e] at h hh ⊢
  · exact enc_ok1 S A n _ _ _ _ ho (show nm n = nm n from rfl) e (show lay (fm n * 3) = lay (fm n * 3) from rfl) (show cyc n = cyc n from rfl) (show held n 1 = held n 1 from rfl) (by omega) (by omega) w T
  · exact enc_ok2 S A n _ _ _ _ ho (show nm n = nm n from rfl) e (show lay (fm n * 3) = lay (fm n * 3) from rfl) (show cyc n = cyc n from rfl) (show held n 2 = held n 2 from rfl) (by omega) (by omega) (by omega) w T
  · exact enc_ok3 S A n _ _ _ _ ho (show nm n = nm n from rfl) e (show lay (fm n * 3) = lay (fm n * 3) from rfl) (show cyc n = cyc n from rfl) (show held n 3 = held n 3 from rfl) (by omega) (by omega) (by omega) w T
  · exact enc_ok4 S A n _ _ _ _ ho (show nm n = nm n from rfl) e (show lay (fm n * 3) = lay (fm n * 3) from rfl) (show cyc n = cyc n from rfl) (show held n 4 = held n 4 from rfl) (by omega) (by omega) w T
  · exact enc_ok5 S A n _ _ _ _ ho (show nm n = nm n from rfl) e (show lay (fm n * 3) = lay (fm n * 3) from rfl) (show cyc n = cyc n from rfl) (show held n 5 = held n 5 from rfl) (by omega) (by omega) w T
  · exact enc_ok6 S A n _ _ _ _ ho (show nm n = nm n from rfl) e (show lay (fm n * 3) = lay (fm n * 3) from rfl) (show cyc n = cyc n from rfl) (show held n 6 = held n 6 from rfl) (by omega) (by omega) w T

/-- The operand that Decode reads, from an op and the two bytes behind it; the bytes that are read. -/
def argOf (n p q : Nat) : Int := if by1 n = 1 then (held n (fm n) : Nat) else if by1 n = 2 then p else (p : Int) * 256 + q
def rowOf (n p q : Nat) : List Int := if by1 n = 1 then [(n : Int)] else if by1 n = 2 then [(n : Int), p] else [(n : Int), p, q]
theorem rowOf_len (n p q : Nat) (h : n < 256) : (rowOf n p q).length = by1 n := by
  have := by1_eq n h
  unfold rowOf
  split
  · simp; omega
  · split
    · simp; omega
    · simp; split at this
      · omega
      · split at this <;> omega

theorem may_back (n p q : Nat) (h : n < 256) (hp : p < 256) (hq : q < 256) : may (bs n) (argOf n p q) ∧ encB (bs n) (argOf n p q) = rowOf n p q := by
  have hf := fm_le n h
  have hb := bs_ok n h
  have hh := held_bs n h
  have h1 := held_lt n (fm n)
  have h2 := held_lt (bs n) (fm n)
  have hy := by1_eq n h
  have hd : fm n = 1 ∨ fm n = 2 ∨ fm n = 3 ∨ fm n = 4 ∨ fm n = 5 ∨ fm n = 6 := by omega
  unfold may encB argOf rowOf
  rw [hb.2.1, hy]
  have l1 : lay (1 * 3 + 2) = 0 := by decide
  have l2 : lay (2 * 3 + 2) = 15 := by decide
  have l3 : lay (3 * 3 + 2) = 7 := by decide
  have l4 : lay (4 * 3 + 2) = 255 := by decide
  have l5 : lay (5 * 3 + 2) = 255 := by decide
  have l6 : lay (6 * 3 + 2) = 65535 := by decide
  rcases hd with e | e | e | e | e | e
  all_goals rw [e] at h1 h2 hh ⊢
  all_goals simp [l1, l2, l3, l4, l5, l6]
  all_goals simp at hh h1 h2
  all_goals omega

theorem enc_row (n p q : Nat) (h : n < 256) (hp : p < 256) (hq : q < 256) (w : World) (T : Tabs w) :
    Calls Tryd.prog 53 #[.agg #[.string (nm n), .int .i64 (argOf n p q)]] w (Coded w (rowOf n p q)) := by
  have hm := may_back n p q h hp hq
  have := enc_good (nm n) (argOf n p q) (bs n) (opOf_nm n h) hm.1 w T
  rw [hm.2] at this
  exact this

end Go.Proofs.YtfdjifgmlgpjgabDoor
