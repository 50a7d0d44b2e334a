/- Pages of dots: rows laid on them, and their texts: mathematics. -/
import Derived.Test.YtfkifppadngmdaaProg
namespace Go.Proofs.Ytfkifppadngmdaa
open Go
set_option linter.unusedVariables false
set_option maxRecDepth 20000

/-- The bit of a dot of a byte. -/
def mk (k : Nat) : UInt8 := UInt8.ofNat (128 >>> k)
theorem fin_all {P : UInt8 → Bool} (h : ∀ i : Fin 256, P (UInt8.ofNat i.val) = true) (x : UInt8) : P x = true := by
  have := h ⟨x.toNat, x.toNat_lt⟩
  simpa using this
theorem bit_xor (x : UInt8) (k m : Nat) (hk : k < 8) (hm : m < 8) : ((x ^^^ mk k) &&& mk m != 0) = xor (x &&& mk m != 0) (k == m) := by
  have h : ∀ (i : Fin 256) (k m : Fin 8), ((UInt8.ofNat i.val ^^^ mk k.val) &&& mk m.val != 0) = xor (UInt8.ofNat i.val &&& mk m.val != 0) (k.val == m.val) := by decide +kernel
  have := h ⟨x.toNat, x.toNat_lt⟩ ⟨k, hk⟩ ⟨m, hm⟩
  simpa using this
theorem bit_or (x : UInt8) (k : Nat) (hk : k < 8) (h0 : (x &&& mk k != 0) = false) : x ||| mk k = x ^^^ mk k := by
  have h : ∀ (i : Fin 256) (k : Fin 8), (UInt8.ofNat i.val &&& mk k.val != 0) = false → UInt8.ofNat i.val ||| mk k.val = UInt8.ofNat i.val ^^^ mk k.val := by decide +kernel
  have := h ⟨x.toNat, x.toNat_lt⟩ ⟨k, hk⟩
  simp only [UInt8.ofNat_toNat] at this
  exact this h0
/-- A byte by its dots. -/
def byB (f : Nat → Bool) : UInt8 := (List.range 8).foldl (fun a k => if f k then a ^^^ mk k else a) 0
theorem byB_bits (x : UInt8) : byB (fun k => x &&& mk k != 0) = x := by
  have h : ∀ (i : Fin 256), byB (fun k => UInt8.ofNat i.val &&& mk k != 0) = UInt8.ofNat i.val := by decide +kernel
  have := h ⟨x.toNat, x.toNat_lt⟩
  simpa using this
theorem byB_congr (f g : Nat → Bool) (h : ∀ k, k < 8 → f k = g k) : byB f = byB g := by
  unfold byB
  simp only [List.range, List.range.loop, List.foldl]
  rw [h 0 (by decide), h 1 (by decide), h 2 (by decide), h 3 (by decide), h 4 (by decide), h 5 (by decide), h 6 (by decide), h 7 (by decide)]
theorem byte_ext (x y : UInt8) (h : ∀ k, k < 8 → (x &&& mk k != 0) = (y &&& mk k != 0)) : x = y := by
  rw [← byB_bits x, ← byB_bits y]
  exact byB_congr _ _ h
/-- Whether a dot of a page is on. -/
def bitP (p : List UInt8) (n : Nat) : Bool := p.getD (n / 8) 0 &&& mk (n % 8) != 0
/-- A dot of a page is turned. -/
def flipP (p : List UInt8) (n : Nat) : List UInt8 := p.set (n / 8) (p.getD (n / 8) 0 ^^^ mk (n % 8))
theorem flip_len (p : List UInt8) (n : Nat) : (flipP p n).length = p.length := by simp [flipP]
theorem bit_flip (p : List UInt8) (n m : Nat) (hn : n / 8 < p.length) : bitP (flipP p n) m = xor (bitP p m) (n == m) := by
  unfold bitP flipP
  by_cases h : n / 8 = m / 8
  · rw [← h]
    have e : (p.set (n / 8) (p.getD (n / 8) 0 ^^^ mk (n % 8))).getD (n / 8) 0 = p.getD (n / 8) 0 ^^^ mk (n % 8) := by
      simp [List.getD, hn]
    rw [e, bit_xor _ _ _ (Nat.mod_lt _ (by decide)) (Nat.mod_lt _ (by decide))]
    congr 1
    by_cases h2 : n = m
    · subst h2; simp
    · have : n % 8 ≠ m % 8 := by omega
      rw [beq_eq_false_iff_ne.2 this, beq_eq_false_iff_ne.2 h2]
  · have e : (p.set (n / 8) (p.getD (n / 8) 0 ^^^ mk (n % 8))).getD (m / 8) 0 = p.getD (m / 8) 0 := by
      simp [List.getD, List.getElem?_set_ne h]
    have : n ≠ m := fun e => h (by rw [e])
    rw [e, beq_eq_false_iff_ne.2 this, Bool.xor_false]
theorem page_ext (p q : List UInt8) (hl : p.length = q.length) (h : ∀ m, m < 8 * p.length → bitP p m = bitP q m) : p = q := by
  apply List.ext_getElem hl
  intro i hi hi2
  apply byte_ext
  intro k hk
  have := h (8 * i + k) (by omega)
  unfold bitP at this
  rw [show (8 * i + k) / 8 = i by omega, show (8 * i + k) % 8 = k by omega] at this
  simpa [List.getD, hi, hi2] using this

/-- The place of the t-th dot of some rows laid at (x, y), if it is on and has one. -/
def plc (x y : Nat) (rows : List UInt8) (t : Nat) : Option Nat :=
  if rows.getD (t / 8) 0 &&& mk (t % 8) = 0 ∨ 64 ≤ x % 64 + t % 8 ∨ 32 ≤ y % 32 + t / 8 then none else some (64 * (y % 32 + t / 8) + (x % 64 + t % 8))
theorem plc_inj {x y : Nat} {rows : List UInt8} {t u n : Nat} (h : plc x y rows t = some n) (k : plc x y rows u = some n) : t = u := by
  unfold plc at h k
  split at h
  · cases h
  split at k
  · cases k
  rename_i h1 h2
  injection h with h
  injection k with k
  omega
theorem plc_lt {x y : Nat} {rows : List UInt8} {t n : Nat} (h : plc x y rows t = some n) : n < 2048 := by
  unfold plc at h
  split at h
  · cases h
  rename_i h1
  injection h with h
  omega
/-- One dot drawn. -/
def stepD (x y : Nat) (rows : List UInt8) (s : List UInt8 × Bool) (t : Nat) : List UInt8 × Bool :=
  match plc x y rows t with
  | none => s
  | some n => (flipP s.1 n, s.2 || bitP s.1 n)
/-- The first k dots drawn. -/
def drawS (x y : Nat) (rows : List UInt8) (p : List UInt8) : Nat → List UInt8 × Bool
  | 0 => (p, false)
  | k + 1 => stepD x y rows (drawS x y rows p k) k
theorem draw_len (x y : Nat) (rows p : List UInt8) (k : Nat) : (drawS x y rows p k).1.length = p.length := by
  induction k with
  | zero => rfl
  | succ k ih =>
    show (stepD x y rows (drawS x y rows p k) k).1.length = _
    unfold stepD
    split
    · exact ih
    · rw [flip_len, ih]
/-- Whether one of the first k dots lies there. -/
def hitS (x y : Nat) (rows : List UInt8) (m : Nat) : Nat → Bool
  | 0 => false
  | k + 1 => hitS x y rows m k || plc x y rows k == some m
theorem hit_iff (x y : Nat) (rows : List UInt8) (m k : Nat) : hitS x y rows m k = true ↔ ∃ t, t < k ∧ plc x y rows t = some m := by
  induction k with
  | zero => simp [hitS]
  | succ k ih =>
    unfold hitS
    rw [Bool.or_eq_true, ih, beq_iff_eq]
    constructor
    · rintro (⟨t, h1, h2⟩ | h)
      · exact ⟨t, by omega, h2⟩
      · exact ⟨k, by omega, h⟩
    · rintro ⟨t, h1, h2⟩
      rcases Nat.lt_or_ge t k with h | h
      · exact .inl ⟨t, h, h2⟩
      · obtain rfl : t = k := by omega
        exact .inr h2
theorem draw_bit (x y : Nat) (rows p : List UInt8) (hp : p.length = 256) (m k : Nat) : bitP (drawS x y rows p k).1 m = xor (bitP p m) (hitS x y rows m k) := by
  induction k with
  | zero => show bitP p m = _; simp [hitS]
  | succ k ih =>
    show bitP (stepD x y rows (drawS x y rows p k) k).1 m = _
    unfold stepD hitS
    cases hq : plc x y rows k with
    | none => simp [ih]
    | some n =>
      have hn := plc_lt hq
      rw [bit_flip _ _ _ (by rw [draw_len, hp]; omega), ih]
      by_cases h : n = m
      · subst h
        have : hitS x y rows n k = false := by
          cases hh : hitS x y rows n k with
          | false => rfl
          | true =>
            obtain ⟨t, h1, h2⟩ := (hit_iff ..).1 hh
            have := plc_inj h2 hq
            omega
        simp [this]
      · have h2 : (some n == some m) = false := beq_eq_false_iff_ne.2 fun e => h (by injection e)
        rw [beq_eq_false_iff_ne.2 h, h2, Bool.xor_false, Bool.or_false]
/-- Whether a page has one of the first k dots on. -/
def goneS (x y : Nat) (rows p : List UInt8) : Nat → Bool
  | 0 => false
  | k + 1 => goneS x y rows p k || match plc x y rows k with | none => false | some n => bitP p n
theorem gone_iff (x y : Nat) (rows p : List UInt8) (k : Nat) : goneS x y rows p k = true ↔ ∃ t n, t < k ∧ plc x y rows t = some n ∧ bitP p n = true := by
  induction k with
  | zero => simp [goneS]
  | succ k ih =>
    unfold goneS
    rw [Bool.or_eq_true, ih]
    constructor
    · rintro (⟨t, n, h1, h2, h3⟩ | h)
      · exact ⟨t, n, by omega, h2, h3⟩
      · cases hq : plc x y rows k with
        | none => rw [hq] at h; cases h
        | some n => rw [hq] at h; exact ⟨k, n, by omega, hq, h⟩
    · rintro ⟨t, n, h1, h2, h3⟩
      rcases Nat.lt_or_ge t k with h | h
      · exact .inl ⟨t, n, h, h2, h3⟩
      · obtain rfl : t = k := by omega
        rw [h2]
        exact .inr h3
theorem draw_gone (x y : Nat) (rows p : List UInt8) (hp : p.length = 256) (k : Nat) : (drawS x y rows p k).2 = goneS x y rows p k := by
  induction k with
  | zero => rfl
  | succ k ih =>
    show (stepD x y rows (drawS x y rows p k) k).2 = _
    unfold stepD goneS
    cases hq : plc x y rows k with
    | none => simp [ih]
    | some n =>
      dsimp only
      rw [ih, draw_bit x y rows p hp n k]
      have : hitS x y rows n k = false := by
        cases hh : hitS x y rows n k with
        | false => rfl
        | true =>
          obtain ⟨t, h1, h2⟩ := (hit_iff ..).1 hh
          have := plc_inj h2 hq
          omega
      rw [this, Bool.xor_false]
theorem draw_twice (x y : Nat) (rows p : List UInt8) (hp : p.length = 256) (k : Nat) : (drawS x y rows (drawS x y rows p k).1 k).1 = p := by
  have hl : (drawS x y rows p k).1.length = 256 := by rw [draw_len, hp]
  apply page_ext _ _ (by rw [draw_len, draw_len])
  intro m _
  rw [draw_bit _ _ _ _ hl, draw_bit _ _ _ _ hp]
  cases bitP p m <;> cases hitS x y rows m k <;> rfl
theorem draw_turns (x y x' y' : Nat) (rows rows' p : List UInt8) (hp : p.length = 256) (k k' : Nat) : (drawS x' y' rows' (drawS x y rows p k).1 k').1 = (drawS x y rows (drawS x' y' rows' p k').1 k).1 := by
  have hl : (drawS x y rows p k).1.length = 256 := by rw [draw_len, hp]
  have hl' : (drawS x' y' rows' p k').1.length = 256 := by rw [draw_len, hp]
  apply page_ext _ _ (by rw [draw_len, draw_len, draw_len, draw_len])
  intro m _
  rw [draw_bit _ _ _ _ hl, draw_bit _ _ _ _ hp, draw_bit _ _ _ _ hl', draw_bit _ _ _ _ hp]
  cases bitP p m <;> cases hitS x y rows m k <;> cases hitS x' y' rows' m k' <;> rfl
/-- Whether the rows have a dot on at (i, j). -/
def mineS (x y : Nat) (rows : List UInt8) (i j : Nat) : Bool :=
  decide (y % 32 ≤ j) && decide (j < y % 32 + rows.length) && decide (x % 64 ≤ i) && decide (i < x % 64 + 8) && (rows.getD (j - y % 32) 0 &&& mk (i - x % 64) != 0)
theorem mine_hit (x y : Nat) (rows : List UInt8) (i j : Nat) (hi : i < 64) (hj : j < 32) : hitS x y rows (64 * j + i) (8 * rows.length) = mineS x y rows i j := by
  rw [Bool.eq_iff_iff, hit_iff]
  unfold mineS
  simp only [Bool.and_eq_true, decide_eq_true_eq, bne_iff_ne]
  constructor
  · rintro ⟨t, h1, h2⟩
    unfold plc at h2
    split at h2
    · cases h2
    rename_i h3
    injection h2 with h2
    have e1 : j - y % 32 = t / 8 := by omega
    have e2 : i - x % 64 = t % 8 := by omega
    rw [e1, e2]
    exact ⟨⟨⟨⟨by omega, by omega⟩, by omega⟩, by omega⟩, fun h => h3 (.inl h)⟩
  · rintro ⟨⟨⟨⟨h1, h2⟩, h3⟩, h4⟩, h5⟩
    refine ⟨8 * (j - y % 32) + (i - x % 64), by omega, ?_⟩
    unfold plc
    rw [show (8 * (j - y % 32) + (i - x % 64)) / 8 = j - y % 32 by omega, show (8 * (j - y % 32) + (i - x % 64)) % 8 = i - x % 64 by omega]
    rw [if_neg (by rintro (h | h | h); exact h5 h; omega; omega)]
    congr 1
    omega

/-- The sign of a dot. -/
def signS (p : List UInt8) (n : Nat) : UInt8 := if bitP p n then 35 else 46
/-- The text of the first k dots. -/
def showS (p : List UInt8) : Nat → List UInt8
  | 0 => []
  | k + 1 => showS p k ++ signS p k :: (if k % 64 = 63 then [10] else [])
theorem show_len (p : List UInt8) (k : Nat) : (showS p k).length = k + k / 64 := by
  induction k with
  | zero => rfl
  | succ k ih =>
    unfold showS
    rw [List.length_append, ih]
    by_cases h : k % 64 = 63
    · rw [if_pos h]; simp; omega
    · rw [if_neg h]; simp; omega
theorem show_at (p : List UInt8) (n k : Nat) (h : n < k) : (showS p k)[n + n / 64]? = some (signS p n) := by
  induction k with
  | zero => omega
  | succ k ih =>
    unfold showS
    rcases Nat.lt_or_ge n k with h1 | h1
    · rw [List.getElem?_append_left (by rw [show_len]; have := Nat.div_le_div_right (c := 64) (Nat.le_of_lt h1); omega)]
      exact ih h1
    · obtain rfl : n = k := by omega
      rw [List.getElem?_append_right (by rw [show_len]; exact Nat.le_refl _), show_len, Nat.sub_self]
      rfl
/-- A line without its line feed. -/
theorem show_row (p : List UInt8) (j i : Nat) (hi : i ≤ 63) : showS p (64 * j + i) = showS p (64 * j) ++ (List.range i).map fun d => signS p (64 * j + d) := by
  induction i with
  | zero => simp
  | succ i ih =>
    rw [← Nat.add_assoc]
    show showS p (64 * j + i) ++ signS p (64 * j + i) :: (if (64 * j + i) % 64 = 63 then [10] else []) = _
    rw [ih (by omega), if_neg (by omega), List.range_succ, List.map_append, ← List.append_assoc]
    rfl
theorem show_line (p : List UInt8) (j : Nat) : showS p (64 * (j + 1)) = showS p (64 * j) ++ (List.range 64).map (fun d => signS p (64 * j + d)) ++ [10] := by
  rw [show 64 * (j + 1) = (64 * j + 63) + 1 by omega]
  show showS p (64 * j + 63) ++ signS p (64 * j + 63) :: (if (64 * j + 63) % 64 = 63 then [10] else []) = _
  have e : List.range 64 = List.range 63 ++ [63] := List.range_succ
  rw [show_row p j 63 (by omega), if_pos (by omega), e, List.map_append, List.append_assoc, List.append_assoc]
  rfl
/-- Whether a text has a dot on there. -/
def hashS (t : List UInt8) (n : Nat) : Bool := t.getD (65 * (n / 64) + n % 64) 0 == 35
/-- The page of the first k dots of a text. -/
def readS (t : List UInt8) : Nat → List UInt8
  | 0 => List.replicate 256 0
  | k + 1 => if hashS t k then flipP (readS t k) k else readS t k
theorem read_len (t : List UInt8) (k : Nat) : (readS t k).length = 256 := by
  induction k with
  | zero => simp [readS]
  | succ k ih =>
    unfold readS
    split
    · rw [flip_len, ih]
    · exact ih
theorem bit_zero (m : Nat) : bitP (List.replicate 256 0) m = false := by
  unfold bitP
  have e : (List.replicate 256 (0 : UInt8)).getD (m / 8) 0 = 0 := by
    unfold List.getD
    rw [List.getElem?_replicate]
    split <;> rfl
  rw [e, UInt8.zero_and]
  rfl
theorem read_bit (t : List UInt8) (m k : Nat) (hk : k ≤ 2048) : bitP (readS t k) m = (decide (m < k) && hashS t m) := by
  induction k with
  | zero => show bitP (List.replicate 256 0) m = _; rw [bit_zero]; simp
  | succ k ih =>
    unfold readS
    split
    · rename_i h
      rw [bit_flip _ _ _ (by rw [read_len]; omega), ih (by omega)]
      by_cases e : k = m
      · subst e; simp [h]
      · have h2 : decide (m < k + 1) = decide (m < k) := by simp; omega
        rw [h2, beq_eq_false_iff_ne.2 e, Bool.xor_false]
    · rename_i h
      rw [ih (by omega)]
      by_cases e : k = m
      · subst e; simp at h; simp [h]
      · have h2 : decide (m < k + 1) = decide (m < k) := by simp; omega
        rw [h2]
/-- A dot put on where it is off is a dot turned. -/
theorem put_on (p : List UInt8) (n : Nat) (h : bitP p n = false) : p.set (n / 8) (p.getD (n / 8) 0 ||| mk (n % 8)) = flipP p n := by
  unfold flipP
  rw [bit_or _ _ (Nat.mod_lt _ (by decide)) h]
theorem read_next (t : List UInt8) (k : Nat) (hk : k < 2048) : (if hashS t k then (readS t k).set (k / 8) ((readS t k).getD (k / 8) 0 ||| mk (k % 8)) else readS t k) = readS t (k + 1) := by
  show _ = if hashS t k then flipP (readS t k) k else readS t k
  split
  · exact put_on _ _ (by rw [read_bit _ _ _ (by omega)]; simp)
  · rfl
theorem hash_show (p : List UInt8) (n : Nat) (hn : n < 2048) : hashS (showS p 2048) n = bitP p n := by
  unfold hashS
  have e : 65 * (n / 64) + n % 64 = n + n / 64 := by omega
  rw [e, List.getD, show_at p n 2048 hn]
  unfold signS
  cases bitP p n <;> rfl
theorem read_show (p : List UInt8) (hp : p.length = 256) : readS (showS p 2048) 2048 = p := by
  apply page_ext _ _ (by rw [read_len, hp])
  intro m hm
  rw [read_len] at hm
  rw [read_bit _ _ _ (Nat.le_refl _), hash_show p m (by omega)]
  simp; omega
theorem show_size (p : List UInt8) : (showS p 2048).length = 2080 := show_len p 2048
end Go.Proofs.Ytfkifppadngmdaa
