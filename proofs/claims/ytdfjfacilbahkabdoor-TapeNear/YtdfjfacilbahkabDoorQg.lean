/- Whether the ones among bits are odd, nine bits in a row: mathematics, and the program's odd. -/
import Derived.Test.YtdfjfacilbahkabDoorUf
import Derived.Test.YtdfjfacilbahkabDoorUd
namespace Go.Proofs.YtdfjfacilbahkabDoor
open Go Go.RowKit
set_option linter.unusedVariables false
set_option maxHeartbeats 1000000
set_option maxRecDepth 20000

theorem bvn16 (q : Nat) : BitVec.ofInt 16 (q : Int) = BitVec.ofNat 16 q := by
  apply BitVec.eq_of_toNat_eq
  rw [BitVec.toNat_ofInt, BitVec.toNat_ofNat]
  omega
theorem wrapn16 (q : Nat) (h : q < 65536) : IntKind.u16.wrap (q : Int) = (q : Int) := by
  unfold IntKind.wrap
  simp [IntKind.bits, IntKind.signed]
  omega
theorem andN (x y : Nat) (hx : x < 65536) (hy : y < 65536) : bits .and .u16 (x : Int) (y : Int) = ((x &&& y : Nat) : Int) := by
  show IntKind.u16.wrap ((BitVec.ofInt 16 (x : Int) &&& BitVec.ofInt 16 (y : Int)).toNat : Int) = _
  rw [bvn16, bvn16, BitVec.toNat_and, BitVec.toNat_ofNat, BitVec.toNat_ofNat, Nat.mod_eq_of_lt (by simpa using hx), Nat.mod_eq_of_lt (by simpa using hy)]
  exact wrapn16 _ (Nat.lt_of_le_of_lt Nat.and_le_left hx)
theorem orNN (x y : Nat) (hx : x < 65536) (hy : y < 65536) : bits .or .u16 (x : Int) (y : Int) = ((x ||| y : Nat) : Int) := by
  show IntKind.u16.wrap ((BitVec.ofInt 16 (x : Int) ||| BitVec.ofInt 16 (y : Int)).toNat : Int) = _
  rw [bvn16, bvn16, BitVec.toNat_or, BitVec.toNat_ofNat, BitVec.toNat_ofNat, Nat.mod_eq_of_lt (by simpa using hx), Nat.mod_eq_of_lt (by simpa using hy)]
  have : x ||| y < 2 ^ 16 := Nat.or_lt_two_pow (by simpa using hx) (by simpa using hy)
  exact wrapn16 _ (by simpa using this)
theorem p2_lt (k : Nat) (h : k ≤ 9) : (2 : Nat) ^ k ≤ 512 := Nat.pow_le_pow_right (n := 2) (by decide) h
/-- A bit laid where nothing stands yet. -/
theorem orBit (R b k : Nat) (hk : k ≤ 9) (hR : R < 2 ^ k) (hb : b ≤ 1) : bits .or .u16 (R : Int) ((b * 2 ^ k : Nat) : Int) = ((R + b * 2 ^ k : Nat) : Int) := by
  have hp := p2_lt k hk
  have h2 : b * 2 ^ k ≤ 2 ^ k := by
    rcases Nat.le_one_iff_eq_zero_or_eq_one.1 hb with e | e <;> subst e <;> omega
  rw [orNN R (b * 2 ^ k) (by omega) (by omega)]
  have e : (R ||| b * 2 ^ k) = R + b * 2 ^ k := by
    rw [Nat.or_comm, Nat.add_comm, Nat.mul_comm, Nat.two_pow_add_eq_or_of_lt hR]
  rw [e]
theorem shlBit (b k : Nat) (hk : k ≤ 9) (hb : b ≤ 1) : Op.shift .shl .u16 (b : Int) .i64 (k : Int) = pure (.int .u16 ((b * 2 ^ k : Nat) : Int)) := by
  have hp := p2_lt k hk
  have h2 : b * 2 ^ k ≤ 2 ^ k := by
    rcases Nat.le_one_iff_eq_zero_or_eq_one.1 hb with e | e <;> subst e <;> simp
  unfold Op.shift
  rw [if_neg (by omega)]
  have e : ((k : Int)).toNat = k := by omega
  simp only [e, IntKind.bits, Nat.min_eq_left (show k ≤ 16 by omega)]
  have := wrapn16 (b * 2 ^ k) (by omega)
  rw [← this]
  push_cast
  rfl
theorem shrN (m k : Nat) (hk : k ≤ 16) : Op.shift .shr .u16 (m : Int) .i64 (k : Int) = pure (.int .u16 ((m / 2 ^ k : Nat) : Int)) := by
  unfold Op.shift
  rw [if_neg (by omega)]
  have e : ((k : Int)).toNat = k := by omega
  simp only [e, IntKind.bits, Nat.min_eq_left hk]
  rw [Int.fdiv_eq_ediv_of_nonneg _ (Int.pow_nonneg (by decide))]
  push_cast
  rfl
/-- Whether the ones are odd. -/
def parN : Nat → Nat → Bool
  | 0, _ => false
  | k + 1, n => xor (n % 2 == 1) (parN k (n / 2))
theorem parN_step : ∀ x : Fin 1024, 0 < x.val → (x.val &&& (x.val - 1)) < x.val ∧ parN 10 (x.val &&& (x.val - 1)) = !parN 10 x.val := by decide +kernel
theorem parN_sum (k : Nat) : ∀ n, parN k n = decide (sumI (bitsN k n) % 2 = 1) := by
  induction k with
  | zero => intro n; rfl
  | succ k ih =>
    intro n
    simp only [parN, bitsN, sumI, ih]
    have h1 := (sumI_bits k (n / 2)).1
    rcases Nat.mod_two_eq_zero_or_one n with e | e
    · simp [e]
    · simp [e]
      by_cases h : sumI (bitsN k (n / 2)) % 2 = 1
      · simp [h]; omega
      · simp [h]; omega
theorem bitsN_mod (k : Nat) : ∀ m n, m % 2 ^ k = n % 2 ^ k → bitsN k m = bitsN k n := by
  induction k with
  | zero => intro m n _; rfl
  | succ k ih =>
    intro m n h
    simp only [bitsN]
    have hp : 0 < 2 ^ k := Nat.pow_pos (by decide)
    rw [Nat.pow_succ, Nat.mul_comm, Nat.mod_mul, Nat.mod_mul] at h
    have a := Nat.mod_lt m (show 0 < 2 by decide)
    have b := Nat.mod_lt n (show 0 < 2 by decide)
    rw [ih (m / 2) (n / 2) (by omega), show m % 2 = n % 2 by omega]
theorem odd_any (w : World) (x : Nat) (hx : x < 1024) : Calls Tryd.prog 12 #[.int .u16 (x : Int)] w fun e w' => e = .returned (.bool (parN 10 x)) ∧ w' = w := by
  obtain ⟨R, hR⟩ : ∃ R, parN 10 x = R := ⟨_, rfl⟩
  rw [hR]
  have st : Hid (x < 1024 ∧ xor false (parN 10 x) = R) := ⟨hx, by rw [← hR]; simp⟩
  clear hR hx
  go_enter Tryd.func12, Tryd.ntmps12
  go_wp2
  go_loopw [0, 3] (fun a b wz => ∃ (m : Nat) (is : Bool), w = wz ∧ a = .int .u16 (m : Int) ∧ b = .bool is ∧ Hid (m < 1024 ∧ xor is (parN 10 m) = R)) (fun a _ _ => (intOf a).toNat)
  case atStart => exact ⟨x, false, rfl, rfl, rfl, st⟩
  case round =>
    obtain ⟨m, is, rfl, rfl, rfl, J⟩ := hrel
    by_cases h0 : 0 < m
    · have hmi : (0 : Int) < m := by omega
      have m1 : (m : Int) < 1024 := by have := J.out.1; omega
      obtain ⟨s1, s2⟩ := parN_step ⟨m, J.out.1⟩ h0
      dsimp only at s1 s2
      have hand : bits .and .u16 (m : Int) ((m : Int) - 1) = ((m &&& (m - 1) : Nat) : Int) := by
        have := andN m (m - 1) (by have := J.out.1; omega) (by have := J.out.1; omega)
        rw [← this]
        congr 1
        omega
      have fin : Hid ((m &&& (m - 1)) < m ∧ (m &&& (m - 1)) < 1024 ∧ xor (!is) (parN 10 (m &&& (m - 1))) = R) := ⟨s1, by have := J.out.1; omega, by rw [s2, ← J.out.2]; cases is <;> simp⟩
      obtain ⟨q, hq⟩ : ∃ q, (m &&& (m - 1)) = q := ⟨_, rfl⟩
      rw [hq] at hand fin
      have q0 : (q : Int) < 1024 := by have := fin.out.2.1; omega
      clear h0 s1 s2 hq
      go_wp2
      go_roundw
      case rel => exact ⟨q, !is, by first | rfl | trivial, rfl, rfl, fin.out.2⟩
      case measure => have := fin.out.1; simp [intOf]; omega
    · have hm0 : m = 0 := by omega
      subst hm0
      have fin : Hid (is = R) := by show _ = _; rw [← J.out.2]; simp [parN]
      clear h0 J
      go_wp2
      go_ret
      exact ⟨by rw [← fin.out]; rfl, by first | rfl | trivial⟩
theorem nine_step (k R : Nat) (hk : k < 9) (hR : R < 2 ^ k) (p : Int × Int) (rest : List (Int × Int)) (j B : Nat) (hB : B ≤ 1) (hb : bitW p = (B : Int)) :
    nineW (9 - k) (p :: rest) j ((R % 256 : Nat) : Int) (sumI (bitsN k R)) ((2 ^ (min k 8) : Nat) : Int) = nineW (9 - (k + 1)) rest (j + 1) (((R + B * 2 ^ k) % 256 : Nat) : Int) (sumI (bitsN (k + 1) (R + B * 2 ^ k))) ((2 ^ (min (k + 1) 8) : Nat) : Int) := by
  have hp : 0 < 2 ^ k := Nat.pow_pos (by decide)
  have e1 : bitsN k (R + B * 2 ^ k) = bitsN k R := bitsN_mod k _ _ (by rw [Nat.add_mul_mod_self_right])
  have e2 : (R + B * 2 ^ k) / 2 ^ k % 2 = B := by
    rw [Nat.add_mul_div_right _ _ hp, Nat.div_eq_of_lt hR]
    omega
  rw [show 9 - k = (8 - k) + 1 by omega, show 9 - (k + 1) = 8 - k by omega, bitsN_snoc, e1, e2, sumI_app]
  show (if bitW p < 0 then _ else nineW (8 - k) rest (j + 1) (if 0 < 8 - k then _ + bitW p * _ else _) (_ + bitW p) (if 0 < 8 - k then 2 * _ else _)) = _
  rw [hb, if_neg (by omega)]
  by_cases h8 : k < 8
  · rw [if_pos (by omega), if_pos (by omega)]
    have hq : (2 : Nat) ^ k ≤ 128 := pow2_128 k h8
    have hBk : B * 2 ^ k ≤ 2 ^ k := by rcases Nat.le_one_iff_eq_zero_or_eq_one.1 hB with e | e <;> subst e <;> omega
    rw [Nat.mod_eq_of_lt (show R < 256 by omega), Nat.mod_eq_of_lt (show R + B * 2 ^ k < 256 by omega), Nat.min_eq_left (show k ≤ 8 by omega), Nat.min_eq_left (show k + 1 ≤ 8 by omega), Nat.pow_succ]
    congr 1
    all_goals first | (simp []; done) | (push_cast; rw [Int.mul_comm]; done) | (push_cast; omega)
  · have : k = 8 := by omega
    subst this
    rw [if_neg (by omega), if_neg (by omega)]
    congr 1
    all_goals first | (simp []; done) | omega
end Go.Proofs.YtdfjfacilbahkabDoor
