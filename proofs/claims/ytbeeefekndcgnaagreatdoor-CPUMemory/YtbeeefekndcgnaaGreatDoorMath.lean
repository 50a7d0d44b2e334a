/- What each sum of D, a byte and DF is, as plain numbers, and the few facts on bits that the code and the document's answer share. -/
import Derived.WalkKit
import Derived.Deep.QuietTactic
import Derived.Laws.BitsLemmas
import Derived.Laws.BitsAllLaws
namespace Go.Proofs.YtbeeefekndcgnaaGreatDoor
open Go.RowKit

def cw (c : Bool) : Int := if c then 1 else 0
theorem cw_lo (c : Bool) : 0 ≤ cw c := by cases c <;> decide
theorem cw_hi (c : Bool) : cw c ≤ 1 := by cases c <;> decide
theorem cw_eq (c : Bool) : (cw c == 1) = c := by cases c <;> rfl

def doV (s d b : Int) (df : Bool) : Int :=
  if s = 0 then b else if s = 1 then ((d.toNat ||| b.toNat : Nat) : Int) else if s = 2 then ((d.toNat &&& b.toNat : Nat) : Int) else if s = 3 then ((d.toNat ^^^ b.toNat : Nat) : Int)
  else if s = 4 then (d + b) % 256 else if s = 5 then (d + b + cw df) % 256 else if s = 6 then (b - d) % 256 else if s = 7 then (b - d - 1 + cw df) % 256
  else if s = 8 then (d - b) % 256 else if s = 9 then (d - b - 1 + cw df) % 256 else if s = 10 then d / 2 else if s = 11 then d / 2 + 128 * cw df
  else if s = 12 then (2 * d) % 256 else if s = 13 then (2 * d + cw df) % 256 else 0

def doF (s d b : Int) (df : Bool) : Bool :=
  if s = 0 then df else if s = 1 then df else if s = 2 then df else if s = 3 then df
  else if s = 4 then decide (255 < d + b) else if s = 5 then decide (255 < d + b + cw df) else if s = 6 then decide (d ≤ b) else if s = 7 then decide (d < b + cw df)
  else if s = 8 then decide (b ≤ d) else if s = 9 then decide (b < d + cw df) else if s = 10 then decide (d % 2 = 1) else if s = 11 then decide (d % 2 = 1)
  else if s = 12 then decide (128 ≤ d) else if s = 13 then decide (128 ≤ d) else false

theorem w64 (n : Int) (h0 : 0 ≤ n) (h1 : n < 2 ^ 63) : IntKind.i64.wrap n = n := by rw [IntKind.wrap_i64]; omega

theorem or64 (d b : Int) (hd : 0 ≤ d) (hd' : d ≤ 255) (hb : 0 ≤ b) (hb' : b ≤ 255) : bits .or .i64 d b = ((d.toNat ||| b.toNat : Nat) : Int) := by
  have := (bits_nat .i64 63 (by decide) w64 d.toNat b.toNat (by omega) (by omega)).2
  rwa [Int.toNat_of_nonneg hd, Int.toNat_of_nonneg hb] at this
theorem and64 (d b : Int) (hd : 0 ≤ d) (hd' : d ≤ 255) (hb : 0 ≤ b) (hb' : b ≤ 255) : bits .and .i64 d b = ((d.toNat &&& b.toNat : Nat) : Int) := by
  have := (bits_nat .i64 63 (by decide) w64 d.toNat b.toNat (by omega) (by omega)).1
  rwa [Int.toNat_of_nonneg hd, Int.toNat_of_nonneg hb] at this
theorem xor64 (d b : Int) (hd : 0 ≤ d) (hd' : d ≤ 255) (hb : 0 ≤ b) (hb' : b ≤ 255) : bits .xor .i64 d b = ((d.toNat ^^^ b.toNat : Nat) : Int) := by
  obtain ⟨x, rfl⟩ := Int.eq_ofNat_of_zero_le hd
  obtain ⟨y, rfl⟩ := Int.eq_ofNat_of_zero_le hb
  have hx : x % 2 ^ IntKind.i64.bits = x := Nat.mod_eq_of_lt (by show x < 2 ^ 64; omega)
  have hy : y % 2 ^ IntKind.i64.bits = y := Nat.mod_eq_of_lt (by show y < 2 ^ 64; omega)
  have hl : x ^^^ y < 2 ^ 8 := Nat.xor_lt_two_pow (by omega) (by omega)
  simp only [bits, BitVec.ofInt_natCast, BitVec.toNat_xor, BitVec.toNat_ofNat, hx, hy]
  exact w64 _ (Int.natCast_nonneg _) (by omega)
theorem or_lt (d b : Int) (hd : 0 ≤ d) (hd' : d ≤ 255) (hb : 0 ≤ b) (hb' : b ≤ 255) : ((d.toNat ||| b.toNat : Nat) : Int) < 256 := by
  have : d.toNat ||| b.toNat < 2 ^ 8 := Nat.or_lt_two_pow (by omega) (by omega)
  omega
theorem and_lt (d b : Int) (_hd : 0 ≤ d) (_hd' : d ≤ 255) (hb : 0 ≤ b) (hb' : b ≤ 255) : ((d.toNat &&& b.toNat : Nat) : Int) < 256 := by
  have : d.toNat &&& b.toNat < 2 ^ 8 := Nat.and_lt_two_pow _ (by omega)
  omega
theorem xor_lt (d b : Int) (hd : 0 ≤ d) (hd' : d ≤ 255) (hb : 0 ≤ b) (hb' : b ≤ 255) : ((d.toNat ^^^ b.toNat : Nat) : Int) < 256 := by
  have : d.toNat ^^^ b.toNat < 2 ^ 8 := Nat.xor_lt_two_pow (by omega) (by omega)
  omega

theorem right64 (d : Int) (c : Bool) (hd : 0 ≤ d) (hd' : d ≤ 255) : bits .or .i64 (d / 2) (cw c * 128) = d / 2 + 128 * cw c := by
  rw [or64 _ _ (by omega) (by omega) (by have := cw_lo c; omega) (by have := cw_hi c; omega)]
  cases c
  · simp [cw]; omega
  · have h := nat_join 7 128 (d / 2).toNat (by decide) (by omega)
    have e : (cw true * 128).toNat = 128 := by decide
    rw [e, Nat.or_comm, h]
    simp only [cw, if_true]; omega
theorem left64 (d : Int) (c : Bool) (hd : 0 ≤ d) (hd' : d ≤ 255) : bits .or .i64 (d * 2) (cw c) = d * 2 + cw c :=
  bits_join .i64 63 (by decide) w64 1 _ _ (by omega) (by omega) (by omega) (cw_lo c) (by have := cw_hi c; omega) (by have := cw_hi c; omega)
theorem low64 (d : Int) (hd : 0 ≤ d) (hd' : d ≤ 255) : (bits .and .i64 d 1 == 1) = decide (d % 2 = 1) := by
  have := bits_mask .i64 63 (by decide) w64 1 (by decide) d hd (by omega)
  have e : ((2 : Int) ^ 1 - 1) = 1 := by decide
  rw [e] at this
  rw [this, Bool.eq_iff_iff]
  simp
theorem high64 (d : Int) (hd : 0 ≤ d) (hd' : d ≤ 255) : (bits .and .i64 d 128 != 0) = decide (128 ≤ d) := by
  rw [and64 _ _ hd hd' (by decide) (by decide)]
  have h := nat_bit 7 d.toNat
  have e : (128 : Int).toNat = 2 ^ 7 := by decide
  rw [e, h, Bool.eq_iff_iff]
  simp
  omega

theorem doV_lo (s d b : Int) (c : Bool) (hd : 0 ≤ d) (hb : 0 ≤ b) : 0 ≤ doV s d b c := by
  have h1 := cw_lo c
  unfold doV
  repeat (split; · omega)
  omega
theorem doV_hi (s d b : Int) (c : Bool) (hd : 0 ≤ d) (hd' : d ≤ 255) (hb : 0 ≤ b) (hb' : b ≤ 255) : doV s d b c ≤ 255 := by
  have h1 := cw_hi c
  have o := or_lt d b hd hd' hb hb'
  have a := and_lt d b hd hd' hb hb'
  have x := xor_lt d b hd hd' hb hb'
  unfold doV
  repeat (split; · omega)
  omega

theorem grown_drewN {W w' : World} (h : Grown W w') (n : Nat) : Grown W (w'.drewN n) := h
theorem doV0 (d b : Int) (df : Bool) : doV 0 d b df = b := rfl
theorem doF0 (d b : Int) (df : Bool) : doF 0 d b df = df := rfl
theorem doV1 (d b : Int) (df : Bool) : doV 1 d b df = ((d.toNat ||| b.toNat : Nat) : Int) := rfl
theorem doF1 (d b : Int) (df : Bool) : doF 1 d b df = df := rfl
theorem doV2 (d b : Int) (df : Bool) : doV 2 d b df = ((d.toNat &&& b.toNat : Nat) : Int) := rfl
theorem doF2 (d b : Int) (df : Bool) : doF 2 d b df = df := rfl
theorem doV3 (d b : Int) (df : Bool) : doV 3 d b df = ((d.toNat ^^^ b.toNat : Nat) : Int) := rfl
theorem doF3 (d b : Int) (df : Bool) : doF 3 d b df = df := rfl
theorem doV4 (d b : Int) (df : Bool) : doV 4 d b df = (d + b) % 256 := rfl
theorem doF4 (d b : Int) (df : Bool) : doF 4 d b df = decide (255 < d + b) := rfl
theorem doV5 (d b : Int) (df : Bool) : doV 5 d b df = (d + b + cw df) % 256 := rfl
theorem doF5 (d b : Int) (df : Bool) : doF 5 d b df = decide (255 < d + b + cw df) := rfl
theorem doV6 (d b : Int) (df : Bool) : doV 6 d b df = (b - d) % 256 := rfl
theorem doF6 (d b : Int) (df : Bool) : doF 6 d b df = decide (d ≤ b) := rfl
theorem doV7 (d b : Int) (df : Bool) : doV 7 d b df = (b - d - 1 + cw df) % 256 := rfl
theorem doF7 (d b : Int) (df : Bool) : doF 7 d b df = decide (d < b + cw df) := rfl
theorem doV8 (d b : Int) (df : Bool) : doV 8 d b df = (d - b) % 256 := rfl
theorem doF8 (d b : Int) (df : Bool) : doF 8 d b df = decide (b ≤ d) := rfl
theorem doV9 (d b : Int) (df : Bool) : doV 9 d b df = (d - b - 1 + cw df) % 256 := rfl
theorem doF9 (d b : Int) (df : Bool) : doF 9 d b df = decide (b < d + cw df) := rfl
theorem doV10 (d b : Int) (df : Bool) : doV 10 d b df = d / 2 := rfl
theorem doF10 (d b : Int) (df : Bool) : doF 10 d b df = decide (d % 2 = 1) := rfl
theorem doV11 (d b : Int) (df : Bool) : doV 11 d b df = d / 2 + 128 * cw df := rfl
theorem doF11 (d b : Int) (df : Bool) : doF 11 d b df = decide (d % 2 = 1) := rfl
theorem doV12 (d b : Int) (df : Bool) : doV 12 d b df = (2 * d) % 256 := rfl
theorem doF12 (d b : Int) (df : Bool) : doF 12 d b df = decide (128 ≤ d) := rfl
theorem doV13 (d b : Int) (df : Bool) : doV 13 d b df = (2 * d + cw df) % 256 := rfl
theorem doF13 (d b : Int) (df : Bool) : doF 13 d b df = decide (128 ≤ d) := rfl

theorem ret2 {k : IntKind} {a a' : Int} {b b' : Bool} (h : a = a') (h' : b = b') : Ending.returned (.tuple #[.int k a, .bool b]) = .returned (.tuple #[.int k a', .bool b']) := by rw [h, h']
end Go.Proofs.YtbeeefekndcgnaaGreatDoor
