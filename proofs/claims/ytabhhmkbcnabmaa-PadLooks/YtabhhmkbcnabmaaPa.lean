/- Plain functions: keys, masks, latches; their arithmetic. -/
import Derived.Test.YtabhhmkbcnabmaaGn
import Derived.ArgAppend
import Derived.Laws.IdiomCopy
namespace Go.Proofs.Ytabhhmkbcnabmaa
open Go Go.RowKit
set_option linter.unusedVariables false
set_option maxHeartbeats 400000

/-- Is the key k down? -/
def bitB (m k : Nat) : Bool := decide (m / 2 ^ k % 2 = 1)
theorem bitB_high (m k : Nat) (hm : m < 65536) (hk : 16 ≤ k) : bitB m k = false := by
  have : m / 2 ^ k = 0 := Nat.div_eq_of_lt (Nat.lt_of_lt_of_le hm (by
    have := Nat.pow_le_pow_right (n := 2) (by decide) hk
    simpa using this))
  unfold bitB
  rw [this]
  rfl
theorem bitB_test (m k : Nat) : bitB m k = m.testBit k := by
  unfold bitB
  rw [Nat.testBit_eq_decide_div_mod_eq]
/-- The keys below k that are down, rising. -/
def keysN (m k : Nat) : List Nat := (List.range k).filter (bitB m)
theorem keysN_succ (m k : Nat) : keysN m (k + 1) = keysN m k ++ (if bitB m k then [k] else []) := by
  unfold keysN
  rw [List.range_succ, List.filter_append]
  congr 1
  simp [List.filter_cons]
theorem keysN_len (m k : Nat) : (keysN m k).length ≤ k := by
  unfold keysN
  exact Nat.le_trans (List.length_filter_le _ _) (by simp)
theorem keysN_mem (m k j : Nat) : j ∈ keysN m k ↔ j < k ∧ bitB m j = true := by
  unfold keysN
  simp

/-- One key more. -/
def orN (m k : Nat) : Nat := if bitB m k then m else m + 2 ^ k
theorem orN_or (m k : Nat) (hm : m < 65536) (hk : k < 16) : m ||| 2 ^ k = orN m k ∧ orN m k < 65536 := by
  have hp : 2 ^ k < 65536 := by
    have := Nat.pow_lt_pow_right (a := 2) (by decide) hk
    simpa using this
  have hb : m ||| 2 ^ k < 65536 := Nat.or_lt_two_pow (n := 16) (by simpa using hm) (by simpa using hp)
  have e : m ||| 2 ^ k = orN m k := by
    unfold orN
    rw [bitB_test]
    by_cases h : m.testBit k = true
    · rw [if_pos h]
      apply Nat.eq_of_testBit_eq
      intro i
      rw [Nat.testBit_or, Nat.testBit_two_pow]
      by_cases hi : k = i
      · subst hi; simp [h]
      · simp [hi]
    · rw [if_neg h]
      have e1 : (BitVec.ofNat 17 m).toNat = m := by rw [BitVec.toNat_ofNat]; exact Nat.mod_eq_of_lt (Nat.lt_trans hm (by decide))
      have e2 : (BitVec.ofNat 17 (2 ^ k)).toNat = 2 ^ k := by rw [BitVec.toNat_ofNat]; exact Nat.mod_eq_of_lt (Nat.lt_trans hp (by decide))
      have hand : (BitVec.ofNat 17 m) &&& (BitVec.ofNat 17 (2 ^ k)) = 0#17 := by
        apply BitVec.eq_of_toNat_eq
        rw [BitVec.toNat_and, e1, e2]
        apply Nat.eq_of_testBit_eq
        intro i
        rw [Nat.testBit_and, Nat.testBit_two_pow]
        by_cases hi : k = i
        · subst hi; simp at h; simp [h]
        · simp [hi]
      have h2 := congrArg BitVec.toNat (BitVec.add_eq_or_of_and_eq_zero _ _ hand)
      rw [BitVec.toNat_or, BitVec.toNat_add, e1, e2] at h2
      rw [← h2]
      exact Nat.mod_eq_of_lt (by
        have : (2 : Nat) ^ 17 = 131072 := by decide
        omega)
  exact ⟨e, e ▸ hb⟩
theorem bv16 (q : Nat) : BitVec.ofInt 16 (q : Int) = BitVec.ofNat 16 q := by
  apply BitVec.eq_of_toNat_eq
  rw [BitVec.toNat_ofInt, BitVec.toNat_ofNat]
  omega
theorem wrap16 (q : Nat) (h : q < 65536) : IntKind.u16.wrap (q : Int) = (q : Int) := by
  unfold IntKind.wrap
  simp [IntKind.bits, IntKind.signed]
  omega
theorem and_one (q : Nat) (hq : q < 65536) : bits .and .u16 (q : Int) 1 = ((q % 2 : Nat) : Int) := by
  show IntKind.u16.wrap ((BitVec.ofInt 16 (q : Int) &&& BitVec.ofInt 16 ((1 : Nat) : Int)).toNat : Int) = _
  rw [bv16, bv16, BitVec.toNat_and, BitVec.toNat_ofNat, BitVec.toNat_ofNat, Nat.mod_eq_of_lt (by simpa using hq)]
  rw [show 1 % 2 ^ 16 = 1 from rfl, Nat.and_one_is_mod]
  exact wrap16 _ (by omega)
theorem or_two (m k : Nat) (hm : m < 65536) (hk : k < 16) : bits .or .u16 (m : Int) ((2 ^ k : Nat) : Int) = (orN m k : Int) := by
  obtain ⟨e, hl⟩ := orN_or m k hm hk
  have hp : 2 ^ k < 65536 := by
    have := Nat.pow_lt_pow_right (a := 2) (by decide) hk
    simpa using this
  show IntKind.u16.wrap ((BitVec.ofInt 16 (m : Int) ||| BitVec.ofInt 16 ((2 ^ k : Nat) : Int)).toNat : Int) = _
  rw [bv16, bv16, BitVec.toNat_or, BitVec.toNat_ofNat, BitVec.toNat_ofNat, Nat.mod_eq_of_lt (by simpa using hm), Nat.mod_eq_of_lt (by simpa using hp), e]
  exact wrap16 _ hl
/-- The bit that a shift lays at the end. -/
theorem shr_any (m k : Nat) (hm : m < 65536) (yk : IntKind) : ∃ q r : Int, Op.shift .shr .u16 (m : Int) yk (k : Int) = pure (.int .u16 q) ∧ bits .and .u16 q 1 = r ∧ (r == 1) = bitB m k := by
  refine ⟨((m / 2 ^ min k 16 : Nat) : Int), _, ?_, rfl, ?_⟩
  · unfold Op.shift
    rw [if_neg (by omega)]
    have e : ((k : Int)).toNat = k := by omega
    simp only [e, IntKind.bits]
    rw [Int.fdiv_eq_ediv_of_nonneg _ (Int.pow_nonneg (by decide))]
    push_cast
    rfl
  · rw [and_one _ (Nat.lt_of_le_of_lt (Nat.div_le_self _ _) hm)]
    by_cases h : k ≤ 16
    · rw [Nat.min_eq_left h]
      unfold bitB
      have := Nat.mod_two_eq_zero_or_one (m / 2 ^ k)
      rcases this with h | h <;> simp [h]
    · rw [Nat.min_eq_right (by omega), bitB_high m k hm (by omega), Nat.div_eq_of_lt (by simpa using hm)]
      rfl
theorem shl_any (k : Nat) (hk : k < 16) : Op.shift .shl .u16 1 .i64 (k : Int) = pure (.int .u16 ((2 ^ k : Nat) : Int)) := by
  have hp : 2 ^ k < 65536 := by
    have := Nat.pow_lt_pow_right (a := 2) (by decide) hk
    simpa using this
  unfold Op.shift
  rw [if_neg (by omega)]
  have e : ((k : Int)).toNat = k := by omega
  simp only [e, IntKind.bits, Nat.min_eq_left (Nat.le_of_lt hk), Int.one_mul]
  have := wrap16 _ hp
  rw [← this]
  push_cast
  rfl

/-- The mask of keys, and which error. -/
def maskGo : List Int → Nat → Option Nat
  | [], m => some m
  | k :: l, m => if k < 0 ∨ 15 < k then none else maskGo l (orN m k.toNat)
def maskM (o : Option Nat) : Int := match o with | some m => (m : Int) | none => 0
def maskE (o : Option Nat) : Int := match o with | some _ => 0 | none => 1
/-- The latch behind a cycle. -/
def stepL (p port : Int) (read : Bool) (data : Int) : Int := if port = 2 ∧ read = true then data % 16 else if 15 < p then 0 else p
end Go.Proofs.Ytabhhmkbcnabmaa
