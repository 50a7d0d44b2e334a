/- Digits to the base sixteen as plain mathematics: a number's digits, a text's number, there and back. -/
import Derived.WalkKit
import Derived.Laws.BitsLemmas
import Derived.Laws.BitsAllLaws
import Derived.Laws.RangeAny
namespace Go.Proofs.YtfdikiafbfljaaaDoor
open Go.RowKit

/-- The sign of a digit, as a number. -/
def hexC (x : Int) : Int := if x < 10 then 48 + x else 87 + x
theorem hexC_lo (x : Int) (h : 0 ≤ x) : 0 ≤ hexC x := by unfold hexC; split <;> omega
theorem hexC_hi (x : Int) (h : x < 16) : hexC x ≤ 102 := by unfold hexC; split <;> omega

/-- The digit at place j of D, of N. -/
def hexAt (D N j : Nat) : Int := hexC ((N / 16 ^ (D - 1 - j) % 16 : Nat) : Int)
theorem hexAt_lo (D N j : Nat) : 0 ≤ hexAt D N j := hexC_lo _ (by omega)
theorem hexAt_hi (D N j : Nat) : hexAt D N j ≤ 102 := hexC_hi _ (by omega)

/-- The cells of the text while the digits from place k on are written. -/
def hexA (D N k : Nat) : Array Value := Array.ofFn (n := D) fun j => if j.val < k then .int .u8 0 else .int .u8 (hexAt D N j.val)
theorem hexA_size (D N k : Nat) : (hexA D N k).size = D := by simp [hexA]
theorem hexA_get (D N k j : Nat) (h : j < D) : (hexA D N k)[j]? = some (if j < k then .int .u8 0 else .int .u8 (hexAt D N j)) := by
  simp [hexA, h]
theorem hexA_start (D N : Nat) : madeCells #[Value.int .u8 0] D = hexA D N D := by
  apply Array.ext
  · simp [size_madeCells, hexA_size]
  · intro i h1 h2
    have hi : i < D := by simpa [hexA_size] using h2
    simp [madeCells, hexA, Nat.mod_one]
theorem hexA_set (D N k : Nat) : (hexA D N (k + 1)).setIfInBounds k (.int .u8 (hexAt D N k)) = hexA D N k := by
  apply Array.ext
  · simp [hexA_size]
  · intro i h1 h2
    have hi : i < D := by simpa [hexA_size] using h2
    rw [Array.getElem_setIfInBounds (by rw [hexA_size]; exact hi)]
    by_cases e : k = i
    · subst e; simp [hexA]
    · have e1 : (i < k + 1) = (i < k) := by simp; omega
      simp [hexA, e, e1]

/-- The text of N with D digits. -/
def hexL (D N : Nat) : List UInt8 := (List.range D).map fun j => UInt8.ofNat (hexAt D N j).toNat
def hexS (D N : Nat) : ByteArray := ⟨(hexL D N).toArray⟩
theorem hexL_len (D N : Nat) : (hexL D N).length = D := by simp [hexL]
theorem hexL_get (D N j : Nat) (h : j < (hexL D N).length) : ((hexL D N)[j].toNat : Int) = hexAt D N j := by
  have h0 := hexAt_lo D N j
  have h1 := hexAt_hi D N j
  have e : (hexAt D N j).toNat % 256 = (hexAt D N j).toNat := Nat.mod_eq_of_lt (by omega)
  simp [hexL, e, Int.toNat_of_nonneg h0]

def hexOf (n d : Int) : ByteArray := if 1 ≤ d ∧ d ≤ 8 ∧ 0 ≤ n ∧ n / 16 ^ d.toNat = 0 then hexS d.toNat n.toNat else ⟨#[]⟩

/-- What a sign is worth as a digit. -/
def digV (c : Int) : Option Int := if 48 ≤ c ∧ c ≤ 57 then some (c - 48) else if 97 ≤ c ∧ c ≤ 102 then some (c - 87) else none
def numGo : List UInt8 → Int → Option Int
  | [], acc => some acc
  | c :: r, acc => match digV (c.toNat : Int) with
    | none => none
    | some v => numGo r (acc * 16 + v)
def numOf (s : ByteArray) : Option Int := if 1 ≤ s.size ∧ s.size ≤ 8 then numGo s.data.toList 0 else none
def numV (s : ByteArray) : Int := (numOf s).getD 0
def numE (s : ByteArray) : Int := if (numOf s).isSome then 0 else 1

theorem digV_hexC (x : Int) (h : 0 ≤ x) (h' : x < 16) : digV (hexC x) = some x := by
  unfold hexC digV
  by_cases c : x < 10
  · rw [if_pos c, if_pos (by omega)]; congr 1; omega
  · rw [if_neg c, if_neg (by omega), if_pos (by omega)]; congr 1; omega
theorem hexC_digV (c v : Int) (h : digV c = some v) : hexC v = c ∧ 0 ≤ v ∧ v < 16 := by
  unfold digV at h
  split at h
  · simp at h; subst h; unfold hexC; rw [if_pos (by omega)]; omega
  · split at h
    · simp at h; subst h; unfold hexC; rw [if_neg (by omega)]; omega
    · cases h

theorem numGo_append (a b : List UInt8) (acc : Int) : numGo (a ++ b) acc = (numGo a acc).bind fun x => numGo b x := by
  induction a generalizing acc with
  | nil => simp [numGo]
  | cons c r ih =>
    simp only [List.cons_append, numGo]
    cases digV (c.toNat : Int) with
    | none => simp
    | some v => exact ih _

theorem hexL_succ (D N : Nat) : hexL (D + 1) N = hexL D (N / 16) ++ [UInt8.ofNat (hexC ((N % 16 : Nat) : Int)).toNat] := by
  unfold hexL
  rw [List.range_succ, List.map_append]
  congr 1
  · apply List.map_congr_left
    intro j hj
    have hj' : j < D := by simpa using hj
    unfold hexAt
    have e : D + 1 - 1 - j = (D - 1 - j) + 1 := by omega
    rw [e, Nat.pow_succ, Nat.mul_comm, ← Nat.div_div_eq_div_mul]
  · simp [hexAt]

theorem numGo_hexL (D : Nat) : ∀ N : Nat, N < 16 ^ D → numGo (hexL D N) 0 = some (N : Int) := by
  induction D with
  | zero => intro N h; simp at h; subst h; simp [hexL, numGo]
  | succ D ih =>
    intro N h
    have h1 : N / 16 < 16 ^ D := by rw [Nat.pow_succ] at h; omega
    rw [hexL_succ, numGo_append, ih _ h1]
    have hx : 0 ≤ ((N % 16 : Nat) : Int) ∧ ((N % 16 : Nat) : Int) < 16 := by omega
    have hc0 := hexC_lo _ hx.1
    have hc1 := hexC_hi _ hx.2
    have e : ((UInt8.ofNat (hexC ((N % 16 : Nat) : Int)).toNat).toNat : Int) = hexC ((N % 16 : Nat) : Int) := by
      have e : (hexC ((N % 16 : Nat) : Int)).toNat % 256 = (hexC ((N % 16 : Nat) : Int)).toNat := Nat.mod_eq_of_lt (by omega)
      simp only [UInt8.toNat_ofNat', Nat.reducePow, e]
      exact Int.toNat_of_nonneg hc0
    simp only [Option.bind_some, numGo, e, digV_hexC _ hx.1 hx.2]
    congr 1
    omega

theorem numGo_le (l : List UInt8) : ∀ acc x : Int, 0 ≤ acc → numGo l acc = some x → 0 ≤ x ∧ x < (acc + 1) * 16 ^ l.length := by
  induction l with
  | nil => intro acc x h0 h; simp [numGo] at h; subst h; simp; omega
  | cons c r ih =>
    intro acc x h0 h
    simp only [numGo] at h
    cases hv : digV (c.toNat : Int) with
    | none => rw [hv] at h; cases h
    | some v =>
      rw [hv] at h
      obtain ⟨_, v0, v1⟩ := hexC_digV _ _ hv
      obtain ⟨x0, x1⟩ := ih _ _ (by omega) h
      refine ⟨x0, Int.lt_of_lt_of_le x1 ?_⟩
      rw [List.length_cons, Int.pow_succ, Int.mul_comm (16 ^ r.length) 16, ← Int.mul_assoc]
      exact Int.mul_le_mul_of_nonneg_right (by omega) (Int.pow_nonneg (by omega))

theorem hexL_numGo_len (n : Nat) : ∀ (l : List UInt8) (x : Int), l.length = n → numGo l 0 = some x → hexL l.length x.toNat = l := by
  induction n with
  | zero => intro l x hl _; have e := List.length_eq_zero_iff.1 hl; subst e; simp [hexL]
  | succ n ih' =>
    intro l x hl h
    rcases List.eq_nil_or_concat l with e | ⟨r, c, e⟩
    · subst e; simp at hl
    subst e
    have ih := fun y => ih' r y (by simpa using hl)
    rw [List.concat_eq_append] at h ⊢
    rw [numGo_append] at h
    cases hr : numGo r 0 with
    | none => rw [hr] at h; cases h
    | some y =>
      rw [hr] at h
      simp only [Option.bind_some, numGo] at h
      cases hv : digV (c.toNat : Int) with
      | none => rw [hv] at h; cases h
      | some v =>
        rw [hv] at h
        simp at h
        obtain ⟨hc, v0, v1⟩ := hexC_digV _ _ hv
        obtain ⟨y0, _⟩ := numGo_le r 0 y (by omega) hr
        have ex : x.toNat / 16 = y.toNat := by omega
        have em : ((x.toNat % 16 : Nat) : Int) = v := by omega
        rw [List.length_append, List.length_singleton, hexL_succ, ex, ih _ hr, em, hc]
        simp
theorem hexL_numGo (l : List UInt8) (x : Int) (h : numGo l 0 = some x) : hexL l.length x.toNat = l := hexL_numGo_len _ l x rfl h
end Go.Proofs.YtfdikiafbfljaaaDoor
