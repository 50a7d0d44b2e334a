/- Bytes as waves, and waves read as bytes: plain mathematics. -/
import Derived.WalkKit
namespace Go.Proofs.YtdfjfacilbahkabDoor
open Go.RowKit
set_option linter.unusedVariables false
set_option maxHeartbeats 400000

/-- A bit's wave as it is written. -/
def wv (b : Int) : Int × Int := if b = 1 then (140, 140) else (56, 56)
/-- Which bit a wave is; -1: none. -/
def bitW (p : Int × Int) : Int :=
  if p.1 < 1 ∨ p.2 < 1 ∨ 800 < p.1 ∨ 800 < p.2 then -1 else if p.1 + p.2 < 40 ∨ 800 < p.1 + p.2 then -1 else if p.1 + p.2 ≤ 195 then 0 else 1
theorem bitW_cases (p : Int × Int) : bitW p = -1 ∨ bitW p = 0 ∨ bitW p = 1 := by
  unfold bitW
  (repeat' split) <;> simp
theorem bitW_wv (b : Int) (h : b = 0 ∨ b = 1) : bitW (wv b) = b := by
  rcases h with e | e <;> subst e <;> decide
def bitsN : Nat → Nat → List Int
  | 0, _ => []
  | k + 1, n => ((n % 2 : Nat) : Int) :: bitsN k (n / 2)
def sumI : List Int → Int
  | [] => 0
  | b :: l => b + sumI l
def valI : List Int → Int
  | [] => 0
  | b :: l => b + 2 * valI l
def bitI (l : List Int) : Prop := ∀ b ∈ l, b = 0 ∨ b = 1
theorem bitsN_len (k : Nat) : ∀ n, (bitsN k n).length = k := by
  induction k with
  | zero => intro n; rfl
  | succ k ih => intro n; simp [bitsN, ih]
theorem bitsN_bit (k : Nat) : ∀ n, bitI (bitsN k n) := by
  induction k with
  | zero => intro n b hb; simp [bitsN] at hb
  | succ k ih =>
    intro n b hb
    simp only [bitsN, List.mem_cons] at hb
    rcases hb with e | e
    · rw [e]
      have := Nat.mod_two_eq_zero_or_one n
      omega
    · exact ih _ b e
theorem bitsN_val (k : Nat) : ∀ n, n < 2 ^ k → valI (bitsN k n) = (n : Int) := by
  induction k with
  | zero => intro n h; simp at h; subst h; rfl
  | succ k ih =>
    intro n h
    simp only [bitsN, valI]
    rw [ih (n / 2) (by rw [Nat.pow_succ] at h; omega)]
    omega
/-- The last bit of a byte's ten. -/
def oddI (l : List Int) : Int := (sumI l + 1) % 2
/-- A byte's ten waves. -/
def byteW (n : Nat) : List (Int × Int) := wv 1 :: ((bitsN 8 n).map wv ++ [wv (oddI (bitsN 8 n))])
def writeL (b : List UInt8) (m : Nat) : List (Int × Int) := List.replicate m (wv 0) ++ b.flatMap fun x => byteW x.toNat
theorem byteW_len (n : Nat) : (byteW n).length = 10 := by simp [byteW, bitsN_len]
theorem writeL_len (b : List UInt8) (m : Nat) : (writeL b m).length = m + b.length * 10 := by
  unfold writeL
  rw [List.length_append, List.length_replicate]
  congr 1
  induction b with
  | nil => rfl
  | cons x b ih => rw [List.flatMap_cons, List.length_append, byteW_len, ih, List.length_cons]; omega
/-- The zeros ahead of a byte, passed over: an error, where it stands, what is left. -/
def leadW : List (Int × Int) → Nat → Int × Nat × List (Int × Int)
  | [], i => (122, i, [])
  | p :: l, i => if bitW p < 0 then (120, i, []) else if bitW p = 0 then leadW l (i + 1) else (0, i + 1, l)
/-- So many bits: an error, where it stands, their worth, how many are ones, what is left. -/
def nineW : Nat → List (Int × Int) → Nat → Int → Int → Int → Int × Nat × Int × Int × List (Int × Int)
  | 0, l, i, v, o, _ => (0, i, v, o, l)
  | _ + 1, [], i, _, _, _ => (122, i, 0, 0, [])
  | k + 1, p :: l, i, v, o, w => if bitW p < 0 then (120, i, 0, 0, []) else nineW k l (i + 1) (if 0 < k then v + bitW p * w else v) (o + bitW p) (if 0 < k then 2 * w else w)
/-- A byte: it, an error, where it stands, what is left. -/
def byteL (l : List (Int × Int)) (i : Nat) : Int × Int × Nat × List (Int × Int) :=
  if (leadW l i).1 ≠ 0 then (0, (leadW l i).1, (leadW l i).2.1, []) else
  if (nineW 9 (leadW l i).2.2 (leadW l i).2.1 0 0 1).1 ≠ 0 then (0, (nineW 9 (leadW l i).2.2 (leadW l i).2.1 0 0 1).1, (nineW 9 (leadW l i).2.2 (leadW l i).2.1 0 0 1).2.1, []) else
  if (nineW 9 (leadW l i).2.2 (leadW l i).2.1 0 0 1).2.2.2.1 % 2 = 0 then (0, 121, (nineW 9 (leadW l i).2.2 (leadW l i).2.1 0 0 1).2.1 - 1, []) else
  ((nineW 9 (leadW l i).2.2 (leadW l i).2.1 0 0 1).2.2.1, 0, (nineW 9 (leadW l i).2.2 (leadW l i).2.1 0 0 1).2.1, (nineW 9 (leadW l i).2.2 (leadW l i).2.1 0 0 1).2.2.2.2)
def readGo : Nat → List (Int × Int) → Nat → List UInt8 → List UInt8 × Int × Int
  | 0, _, _, out => (out, 0, 0)
  | n + 1, l, i, out => if (byteL l i).2.1 ≠ 0 then ([], (byteL l i).2.1, ((byteL l i).2.2.1 : Int)) else readGo n (byteL l i).2.2.2 (byteL l i).2.2.1 (out ++ [UInt8.ofNat (byteL l i).1.toNat])
def readW (l : List (Int × Int)) (n : Int) : List UInt8 × Int × Int := if n < 0 ∨ 16384 < n then ([], 1, 0) else readGo n.toNat l 0 []
theorem leadW_zeros (m : Nat) (l : List (Int × Int)) : ∀ i, leadW (List.replicate m (wv 0) ++ wv 1 :: l) i = (0, i + m + 1, l) := by
  have e0 : bitW (wv 0) = 0 := by decide
  have e1 : bitW (wv 1) = 1 := by decide
  induction m with
  | zero =>
    intro i
    show (if bitW (wv 1) < 0 then _ else if bitW (wv 1) = 0 then _ else (0, i + 1, l)) = _
    rw [e1, if_neg (by decide), if_neg (by decide)]
  | succ m ih =>
    intro i
    show (if bitW (wv 0) < 0 then _ else if bitW (wv 0) = 0 then leadW (List.replicate m (wv 0) ++ wv 1 :: l) (i + 1) else _) = _
    rw [e0, if_neg (by decide), if_pos rfl, ih, show i + 1 + m + 1 = i + (m + 1) + 1 by omega]
theorem nineW_bits (c : Int) (hc : c = 0 ∨ c = 1) (r : List (Int × Int)) : ∀ (bs : List Int) (i : Nat) (v o w : Int), bitI bs → nineW (bs.length + 1) (bs.map wv ++ wv c :: r) i v o w = (0, i + bs.length + 1, v + w * valI bs, o + sumI bs + c, r) := by
  intro bs
  induction bs with
  | nil =>
    intro i v o w _
    have e := bitW_wv c hc
    show (if bitW (wv c) < 0 then _ else nineW 0 r (i + 1) (if 0 < 0 then v + bitW (wv c) * w else v) (o + bitW (wv c)) (if 0 < 0 then 2 * w else w)) = _
    rw [e, if_neg (by omega)]
    simp [nineW, valI, sumI]
  | cons b bs ih =>
    intro i v o w hb
    have hb0 := hb b (by simp)
    have e := bitW_wv b hb0
    show (if bitW (wv b) < 0 then _ else nineW (bs.length + 1) (bs.map wv ++ wv c :: r) (i + 1) (if 0 < bs.length + 1 then v + bitW (wv b) * w else v) (o + bitW (wv b)) (if 0 < bs.length + 1 then 2 * w else w)) = _
    rw [e, if_neg (by omega), if_pos (by omega), if_pos (by omega), ih _ _ _ _ (fun x hx => hb x (by simp [hx]))]
    simp only [List.length_cons, valI, sumI, Prod.mk.injEq, and_true, true_and]
    refine ⟨by omega, ?_, by omega⟩
    rw [Int.mul_add, Int.mul_comm b w, Int.mul_comm 2 w, Int.mul_assoc, Int.add_assoc]
theorem sumI_bit (l : List Int) (h : bitI l) : 0 ≤ sumI l := by
  induction l with
  | nil => exact Int.le_refl _
  | cons b l ih =>
    have := h b (by simp)
    have := ih (fun x hx => h x (by simp [hx]))
    simp only [sumI]
    omega
/-- A byte that is written is read as it was. -/
theorem byteL_write (n : Nat) (hn : n < 256) (m i : Nat) (r : List (Int × Int)) : byteL (List.replicate m (wv 0) ++ (byteW n ++ r)) i = ((n : Int), 0, i + m + 10, r) := by
  have hb := bitsN_bit 8 n
  have hl := bitsN_len 8 n
  have hv := bitsN_val 8 n hn
  have hs := sumI_bit _ hb
  have ho : oddI (bitsN 8 n) = 0 ∨ oddI (bitsN 8 n) = 1 := by unfold oddI; omega
  have e1 : List.replicate m (wv 0) ++ (byteW n ++ r) = List.replicate m (wv 0) ++ wv 1 :: ((bitsN 8 n).map wv ++ wv (oddI (bitsN 8 n)) :: r) := by
    unfold byteW
    simp
  have e2 := leadW_zeros m ((bitsN 8 n).map wv ++ wv (oddI (bitsN 8 n)) :: r) i
  have e3 := nineW_bits (oddI (bitsN 8 n)) ho r (bitsN 8 n) (i + m + 1) 0 0 1 hb
  rw [hl, hv] at e3
  unfold byteL
  rw [e1, e2]
  simp only
  rw [show (9 : Nat) = 8 + 1 from rfl, e3]
  simp only
  rw [if_neg (by simp), if_neg (by simp), if_neg (by unfold oddI; omega)]
  simp only [Prod.mk.injEq, and_true]
  omega
theorem readGo_write (b : List UInt8) : ∀ (k m i : Nat) (r : List (Int × Int)) (out : List UInt8), k ≤ b.length → readGo k (List.replicate m (wv 0) ++ ((b.flatMap fun x => byteW x.toNat) ++ r)) i out = (out ++ b.take k, 0, 0) := by
  induction b with
  | nil =>
    intro k m i r out hk
    have : k = 0 := by simpa using hk
    subst this
    simp [readGo]
  | cons x b ih =>
    intro k m i r out hk
    cases k with
    | zero => simp [readGo]
    | succ k =>
      have hx := x.toNat_lt
      have e := byteL_write x.toNat hx m i ((b.flatMap fun x => byteW x.toNat) ++ r)
      rw [List.flatMap_cons, List.append_assoc]
      unfold readGo
      rw [e]
      simp only
      rw [if_neg (by simp)]
      have := ih k 0 (i + m + 10) r (out ++ [UInt8.ofNat ((x.toNat : Int)).toNat]) (by simpa using hk)
      simp only [List.replicate_zero, List.nil_append] at this
      rw [this]
      simp
/-- Bytes that are written are read as they were. -/
theorem read_write (b : List UInt8) (m k : Nat) (r : List (Int × Int)) (hk : k ≤ b.length) (h16 : k ≤ 16384) : readW (writeL b m ++ r) (k : Int) = (b.take k, 0, 0) := by
  unfold readW writeL
  rw [if_neg (by omega), Int.toNat_natCast, List.append_assoc, readGo_write b k m 0 r [] hk]
  simp
/-- Waves heard in a script's rows: how long Tape is true, and how long it is not behind that. -/
def hearGo : List (Bool × Int) → Bool → List (Int × Int) → List (Int × Int)
  | [], _, out => out
  | (true, n) :: l, true, out => hearGo l true (out.dropLast ++ (match out.getLast? with | some p => [(p.1 + n, p.2)] | none => []))
  | (true, n) :: l, false, out => hearGo l true (out ++ [(n, 0)])
  | (false, n) :: l, _, out => hearGo l false (out.dropLast ++ (match out.getLast? with | some p => [(p.1, p.2 + n)] | none => []))
def hearW (l : List (Bool × Int)) : List (Int × Int) := hearGo l false []
/-- Waves as spans. -/
def playW (l : List (Int × Int)) : List (Bool × Int) := l.flatMap fun p => [(true, p.1), (false, p.2)]
theorem hear_play (l : List (Int × Int)) : ∀ out, hearGo (playW l) false out = out ++ l := by
  induction l with
  | nil => intro out; simp [playW, hearGo]
  | cons p l ih =>
    intro out
    show hearGo ((true, p.1) :: (false, p.2) :: playW l) false out = _
    simp only [hearGo]
    rw [List.dropLast_concat, List.getLast?_concat]
    simp only
    rw [ih, List.append_assoc]
    simp
/-- What is played is heard. -/
theorem heard_spans (l : List (Int × Int)) : hearW (playW l) = l := by
  unfold hearW
  rw [hear_play]
  simp
end Go.Proofs.YtdfjfacilbahkabDoor
