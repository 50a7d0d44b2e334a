/- Digits to the base sixteen as plain mathematics: a number's digits, a text's number, there and back. Orders of CHIP-8, plain: their rows, a word as an order and back. -/
import Derived.WalkKit
import Derived.Laws.BitsLemmas
import Derived.Laws.BitsAllLaws
import Derived.Laws.RangeAny
import Derived.Lib.SplitLaws
namespace Go.Proofs.YthaijjehplomfaaDoor
open Go.RowKit

/-- The sign of a digit, as a number. -/
def hexC (x : Int) : Int := if x < 10 then 48 + x else 87 + x
theorem hexC_lo (x : Int) (h : 0 ≤ x) : 0 ≤ hexC x := by unfold hexC; split <;> omega
theorem hexC_hi (x : Int) (h : x < 16) : hexC x ≤ 102 := by unfold hexC; split <;> omega

/-- The digit at place j of D, of N. -/
def hexAt (D N j : Nat) : Int := hexC ((N / 16 ^ (D - 1 - j) % 16 : Nat) : Int)
theorem hexAt_lo (D N j : Nat) : 0 ≤ hexAt D N j := hexC_lo _ (by omega)
theorem hexAt_hi (D N j : Nat) : hexAt D N j ≤ 102 := hexC_hi _ (by omega)

/-- The cells of the text while the digits from place k on are written. -/
def hexA (D N k : Nat) : Array Value := Array.ofFn (n := D) fun j => if j.val < k then .int .u8 0 else .int .u8 (hexAt D N j.val)
theorem hexA_size (D N k : Nat) : (hexA D N k).size = D := by simp [hexA]
theorem hexA_get (D N k j : Nat) (h : j < D) : (hexA D N k)[j]? = some (if j < k then .int .u8 0 else .int .u8 (hexAt D N j)) := by
  simp [hexA, h]
theorem hexA_start (D N : Nat) : madeCells #[Value.int .u8 0] D = hexA D N D := by
  apply Array.ext
  · simp [size_madeCells, hexA_size]
  · intro i h1 h2
    have hi : i < D := by simpa [hexA_size] using h2
    simp [madeCells, hexA, Nat.mod_one]
theorem hexA_set (D N k : Nat) : (hexA D N (k + 1)).setIfInBounds k (.int .u8 (hexAt D N k)) = hexA D N k := by
  apply Array.ext
  · simp [hexA_size]
  · intro i h1 h2
    have hi : i < D := by simpa [hexA_size] using h2
    rw [Array.getElem_setIfInBounds (by rw [hexA_size]; exact hi)]
    by_cases e : k = i
    · subst e; simp [hexA]
    · have e1 : (i < k + 1) = (i < k) := by simp; omega
      simp [hexA, e, e1]

/-- The text of N with D digits. -/
def hexL (D N : Nat) : List UInt8 := (List.range D).map fun j => UInt8.ofNat (hexAt D N j).toNat
def hexS (D N : Nat) : ByteArray := ⟨(hexL D N).toArray⟩
theorem hexL_len (D N : Nat) : (hexL D N).length = D := by simp [hexL]
theorem hexL_get (D N j : Nat) (h : j < (hexL D N).length) : ((hexL D N)[j].toNat : Int) = hexAt D N j := by
  have h0 := hexAt_lo D N j
  have h1 := hexAt_hi D N j
  have e : (hexAt D N j).toNat % 256 = (hexAt D N j).toNat := Nat.mod_eq_of_lt (by omega)
  simp [hexL, e, Int.toNat_of_nonneg h0]

def hexOf (n d : Int) : ByteArray := if 1 ≤ d ∧ d ≤ 8 ∧ 0 ≤ n ∧ n / 16 ^ d.toNat = 0 then hexS d.toNat n.toNat else ⟨#[]⟩

/-- What a sign is worth as a digit. -/
def digV (c : Int) : Option Int := if 48 ≤ c ∧ c ≤ 57 then some (c - 48) else if 97 ≤ c ∧ c ≤ 102 then some (c - 87) else none
def numGo : List UInt8 → Int → Option Int
  | [], acc => some acc
  | c :: r, acc => match digV (c.toNat : Int) with
    | none => none
    | some v => numGo r (acc * 16 + v)
def numOf (s : ByteArray) : Option Int := if 1 ≤ s.size ∧ s.size ≤ 8 then numGo s.data.toList 0 else none
def numV (s : ByteArray) : Int := (numOf s).getD 0
def numE (s : ByteArray) : Int := if (numOf s).isSome then 0 else 1

theorem digV_hexC (x : Int) (h : 0 ≤ x) (h' : x < 16) : digV (hexC x) = some x := by
  unfold hexC digV
  by_cases c : x < 10
  · rw [if_pos c, if_pos (by omega)]; congr 1; omega
  · rw [if_neg c, if_neg (by omega), if_pos (by omega)]; congr 1; omega
theorem hexC_digV (c v : Int) (h : digV c = some v) : hexC v = c ∧ 0 ≤ v ∧ v < 16 := by
  unfold digV at h
  split at h
  · simp at h; subst h; unfold hexC; rw [if_pos (by omega)]; omega
  · split at h
    · simp at h; subst h; unfold hexC; rw [if_neg (by omega)]; omega
    · cases h

theorem numGo_append (a b : List UInt8) (acc : Int) : numGo (a ++ b) acc = (numGo a acc).bind fun x => numGo b x := by
  induction a generalizing acc with
  | nil => simp [numGo]
  | cons c r ih =>
    simp only [List.cons_append, numGo]
    cases digV (c.toNat : Int) with
    | none => simp
    | some v => exact ih _

theorem hexL_succ (D N : Nat) : hexL (D + 1) N = hexL D (N / 16) ++ [UInt8.ofNat (hexC ((N % 16 : Nat) : Int)).toNat] := by
  unfold hexL
  rw [List.range_succ, List.map_append]
  congr 1
  · apply List.map_congr_left
    intro j hj
    have hj' : j < D := by simpa using hj
    unfold hexAt
    have e : D + 1 - 1 - j = (D - 1 - j) + 1 := by omega
    rw [e, Nat.pow_succ, Nat.mul_comm, ← Nat.div_div_eq_div_mul]
  · simp [hexAt]

theorem numGo_hexL (D : Nat) : ∀ N : Nat, N < 16 ^ D → numGo (hexL D N) 0 = some (N : Int) := by
  induction D with
  | zero => intro N h; simp at h; subst h; simp [hexL, numGo]
  | succ D ih =>
    intro N h
    have h1 : N / 16 < 16 ^ D := by rw [Nat.pow_succ] at h; omega
    rw [hexL_succ, numGo_append, ih _ h1]
    have hx : 0 ≤ ((N % 16 : Nat) : Int) ∧ ((N % 16 : Nat) : Int) < 16 := by omega
    have hc0 := hexC_lo _ hx.1
    have hc1 := hexC_hi _ hx.2
    have e : ((UInt8.ofNat (hexC ((N % 16 : Nat) : Int)).toNat).toNat : Int) = hexC ((N % 16 : Nat) : Int) := by
      have e : (hexC ((N % 16 : Nat) : Int)).toNat % 256 = (hexC ((N % 16 : Nat) : Int)).toNat := Nat.mod_eq_of_lt (by omega)
      simp only [UInt8.toNat_ofNat', Nat.reducePow, e]
      exact Int.toNat_of_nonneg hc0
    simp only [Option.bind_some, numGo, e, digV_hexC _ hx.1 hx.2]
    congr 1
    omega

theorem numGo_le (l : List UInt8) : ∀ acc x : Int, 0 ≤ acc → numGo l acc = some x → 0 ≤ x ∧ x < (acc + 1) * 16 ^ l.length := by
  induction l with
  | nil => intro acc x h0 h; simp [numGo] at h; subst h; simp; omega
  | cons c r ih =>
    intro acc x h0 h
    simp only [numGo] at h
    cases hv : digV (c.toNat : Int) with
    | none => rw [hv] at h; cases h
    | some v =>
      rw [hv] at h
      obtain ⟨_, v0, v1⟩ := hexC_digV _ _ hv
      obtain ⟨x0, x1⟩ := ih _ _ (by omega) h
      refine ⟨x0, Int.lt_of_lt_of_le x1 ?_⟩
      rw [List.length_cons, Int.pow_succ, Int.mul_comm (16 ^ r.length) 16, ← Int.mul_assoc]
      exact Int.mul_le_mul_of_nonneg_right (by omega) (Int.pow_nonneg (by omega))

theorem hexL_numGo_len (n : Nat) : ∀ (l : List UInt8) (x : Int), l.length = n → numGo l 0 = some x → hexL l.length x.toNat = l := by
  induction n with
  | zero => intro l x hl _; have e := List.length_eq_zero_iff.1 hl; subst e; simp [hexL]
  | succ n ih' =>
    intro l x hl h
    rcases List.eq_nil_or_concat l with e | ⟨r, c, e⟩
    · subst e; simp at hl
    subst e
    have ih := fun y => ih' r y (by simpa using hl)
    rw [List.concat_eq_append] at h ⊢
    rw [numGo_append] at h
    cases hr : numGo r 0 with
    | none => rw [hr] at h; cases h
    | some y =>
      rw [hr] at h
      simp only [Option.bind_some, numGo] at h
      cases hv : digV (c.toNat : Int) with
      | none => rw [hv] at h; cases h
      | some v =>
        rw [hv] at h
        simp at h
        obtain ⟨hc, v0, v1⟩ := hexC_digV _ _ hv
        obtain ⟨y0, _⟩ := numGo_le r 0 y (by omega) hr
        have ex : x.toNat / 16 = y.toNat := by omega
        have em : ((x.toNat % 16 : Nat) : Int) = v := by omega
        rw [List.length_append, List.length_singleton, hexL_succ, ex, ih _ hr, em, hc]
        simp
theorem hexL_numGo (l : List UInt8) (x : Int) (h : numGo l 0 = some x) : hexL l.length x.toNat = l := hexL_numGo_len _ l x rfl h
end Go.Proofs.YthaijjehplomfaaDoor

namespace Go.Proofs.YthaijjehplomfaaDoor
open Go Go.RowKit
set_option linter.unusedVariables false
set_option maxHeartbeats 1000000
set_option maxRecDepth 100000

/-- An order: its Op and its fields. -/
structure Od where
  op : Nat
  x : Nat
  y : Nat
  n : Nat
  b : Nat
  a : Nat
def od0 : Od := ⟨0, 0, 0, 0, 0, 0⟩
def Od.same (o p : Od) : Bool := o.op == p.op && (o.x == p.x && (o.y == p.y && (o.n == p.n && (o.b == p.b && o.a == p.a))))
theorem Od.same_iff {o p : Od} : o.same p = true ↔ o = p := by
  cases o
  cases p
  simp [Od.same]
/-- The fields: 0 X, 1 Y, 2 N, 3 NN, 4 NNN. -/
def digK (k : Nat) : Nat := if k = 4 then 3 else if k = 3 then 2 else 1
def belK (k : Nat) : Nat := if k = 0 then 8 else if k = 1 then 4 else 0
def mskK (k : Nat) : Nat := if k = 0 then 3840 else if k = 1 then 240 else if k = 2 then 15 else if k = 3 then 255 else 4095
def ledK (k : Nat) : List UInt8 := if k = 0 then [118] else if k = 1 then [118] else []
def getK (k : Nat) (o : Od) : Nat := if k = 0 then o.x else if k = 1 then o.y else if k = 2 then o.n else if k = 3 then o.b else o.a
def putK (k : Nat) (o : Od) (v : Nat) : Od := if k = 0 then { o with x := v % 256 } else if k = 1 then { o with y := v % 256 } else if k = 2 then { o with n := v % 256 } else if k = 3 then { o with b := v % 256 } else { o with a := v }
def rowT : List (Nat × Nat × List UInt8 × List Nat) := [
  (2, 224, [99, 108, 101, 97, 114], []),
  (3, 238, [114, 101, 116, 117, 114, 110], []),
  (1, 0, [109, 97, 99, 104, 105, 110, 101], [4]),
  (4, 4096, [106, 117, 109, 112], [4]),
  (5, 8192, [99, 97, 108, 108], [4]),
  (6, 12288, [115, 107, 105, 112, 45, 105, 115], [0, 3]),
  (7, 16384, [115, 107, 105, 112, 45, 110, 111, 116], [0, 3]),
  (8, 20480, [115, 107, 105, 112, 45, 115, 97, 109, 101], [0, 1]),
  (9, 24576, [115, 101, 116], [0, 3]),
  (10, 28672, [97, 100, 100], [0, 3]),
  (11, 32768, [109, 111, 118, 101], [0, 1]),
  (12, 32769, [111, 114], [0, 1]),
  (13, 32770, [97, 110, 100], [0, 1]),
  (14, 32772, [112, 108, 117, 115], [0, 1]),
  (15, 32773, [109, 105, 110, 117, 115], [0, 1]),
  (16, 36864, [115, 107, 105, 112, 45, 111, 116, 104, 101, 114], [0, 1]),
  (17, 40960, [112, 111, 105, 110, 116], [4]),
  (18, 45056, [106, 117, 109, 112, 45, 98, 121], [4]),
  (19, 49152, [114, 97, 110, 100, 111, 109], [0, 3]),
  (20, 53248, [100, 114, 97, 119], [0, 1, 2]),
  (21, 57502, [115, 107, 105, 112, 45, 100, 111, 119, 110], [0]),
  (22, 57505, [115, 107, 105, 112, 45, 117, 112], [0]),
  (23, 61447, [116, 105, 109, 101, 114], [0]),
  (24, 61450, [107, 101, 121], [0]),
  (25, 61461, [100, 101, 108, 97, 121], [0]),
  (26, 61464, [115, 111, 117, 110, 100], [0]),
  (27, 61470, [111, 110], [0]),
  (28, 61481, [100, 105, 103, 105, 116], [0]),
  (29, 61491, [116, 104, 114, 101, 101], [0]),
  (30, 61525, [115, 116, 111, 114, 101], [0]),
  (31, 61541, [102, 105, 108, 108], [0])]
def opR (i : Nat) : Nat := (rowT.getD i (0, 0, [], [])).1
def wdR (i : Nat) : Nat := (rowT.getD i (0, 0, [], [])).2.1
def nmR (i : Nat) : List UInt8 := (rowT.getD i (0, 0, [], [])).2.2.1
def fsR (i : Nat) : List Nat := (rowT.getD i (0, 0, [], [])).2.2.2

/-- The first number below n of which it is so. -/
def fstI (p : Nat → Bool) (n : Nat) : Option Nat := (List.range n).find? p
theorem fstI_some {p : Nat → Bool} {n i : Nat} (hi : i < n) (h : p i = true) (hj : ∀ j, j < i → p j = false) : fstI p n = some i := by
  unfold fstI
  rw [List.find?_range_eq_some]
  exact ⟨h, List.mem_range.2 hi, fun j hji => by rw [hj j hji]; rfl⟩
theorem fstI_none {p : Nat → Bool} {n : Nat} (hj : ∀ j, j < n → p j = false) : fstI p n = none := by
  unfold fstI
  rw [List.find?_eq_none]
  intro j hm
  rw [hj j (List.mem_range.1 hm)]
  simp
theorem fstI_of {p : Nat → Bool} {n i : Nat} (h : fstI p n = some i) : i < n ∧ p i = true ∧ ∀ j, j < i → p j = false := by
  unfold fstI at h
  rw [List.find?_range_eq_some] at h
  exact ⟨List.mem_range.1 h.2.1, h.1, fun j hj => by have := h.2.2 j hj; simpa using this⟩
def clrF (w : Nat) (fs : List Nat) : Nat := fs.foldl (fun w k => w &&& (65535 - mskK k)) w
def takR (i w : Nat) : Bool := clrF w (fsR i) == wdR i
def fldV (k w : Nat) : Nat := (w &&& mskK k) >>> belK k
def ordF (o : Od) (w : Nat) (fs : List Nat) : Od := fs.foldl (fun o k => putK k o (fldV k w)) o
def ordR (i w : Nat) : Od := ordF ⟨opR i, 0, 0, 0, 0, 0⟩ w (fsR i)
/-- The row of a word, and its order. -/
def decR (w : Nat) : Option Nat := fstI (takR · w) 31
def decO (w : Nat) : Od := match decR w with | some i => ordR i w | none => od0
def decB (w : Nat) : Bool := (decR w).isSome
def wrdF (w : Nat) (o : Od) (fs : List Nat) : Nat := fs.foldl (fun w k => w ||| (getK k o <<< belK k) % 65536) w
def wrdR (i : Nat) (o : Od) : Nat := wrdF (wdR i) o (fsR i)
/-- The row of an order, and its word. -/
def rowO (o : Od) : Option Nat := fstI (fun i => opR i == o.op) 31
def encW (o : Od) : Option Nat := match rowO o with | none => none | some i => if decB (wrdR i o) && (decO (wrdR i o)).same o then some (wrdR i o) else none

theorem encW_of {o : Od} {w : Nat} (h : encW o = some w) : ∃ i, rowO o = some i ∧ w = wrdR i o ∧ decB w = true ∧ decO w = o := by
  unfold encW at h
  split at h
  · cases h
  · rename_i i hi
    split at h
    · rename_i hc
      injection h with h
      subst h
      rw [Bool.and_eq_true] at hc
      exact ⟨i, hi, rfl, hc.1, Od.same_iff.1 hc.2⟩
    · cases h

theorem fs_pats : ∀ i, i < 31 → fsR i = [] ∨ fsR i = [0] ∨ fsR i = [4] ∨ fsR i = [0, 1] ∨ fsR i = [0, 3] ∨ fsR i = [0, 1, 2] := by decide +kernel
theorem op_row : ∀ i, i < 31 → ∀ j, j < 31 → opR j = opR i → j = i := by decide +kernel
theorem nm_row : ∀ i, i < 31 → ∀ j, j < 31 → nmR j = nmR i → j = i := by decide +kernel
theorem op_bnd : ∀ i, i < 31 → 1 ≤ opR i ∧ opR i ≤ 31 := by decide +kernel
theorem wd_bnd : ∀ i, i < 31 → wdR i < 65536 := by decide +kernel
theorem nm_bnd : ∀ i, i < 31 → 32 ∉ nmR i ∧ 0 < (nmR i).length ∧ (nmR i).length ≤ 10 := by decide +kernel
theorem rowO_row (i : Nat) (hi : i < 31) (o : Od) (h : o.op = opR i) : rowO o = some i :=
  fstI_some hi (by simp [h]) fun j hj => by
    rw [beq_eq_false_iff_ne]
    intro e
    exact absurd (op_row i hi j (by omega) (by rw [e, h])) (by omega)

/-- Of all words the same. -/
theorem all_words (p : Nat → Bool) (h : ((List.range 256).all fun a => (List.range 256).all fun b => p (a * 256 + b)) = true) (w : Nat) (hw : w < 65536) : p w = true := by
  have h1 := List.all_eq_true.1 h (w / 256) (List.mem_range.2 (by omega))
  have h2 := List.all_eq_true.1 h1 (w % 256) (List.mem_range.2 (by omega))
  rwa [show w / 256 * 256 + w % 256 = w by omega] at h2
theorem word_x (w : Nat) (hw : w < 65536) : ((w &&& 61695) ||| (((w &&& 3840) >>> 8 % 256) <<< 8) % 65536 == w) = true := all_words (fun w => (w &&& 61695) ||| (((w &&& 3840) >>> 8 % 256) <<< 8) % 65536 == w) (by decide +kernel) w hw
theorem word_a (w : Nat) (hw : w < 65536) : ((w &&& 61440) ||| (((w &&& 4095) >>> 0) <<< 0) % 65536 == w) = true := all_words (fun w => (w &&& 61440) ||| (((w &&& 4095) >>> 0) <<< 0) % 65536 == w) (by decide +kernel) w hw
theorem word_xy (w : Nat) (hw : w < 65536) : ((w &&& 61695 &&& 65295) ||| (((w &&& 3840) >>> 8 % 256) <<< 8) % 65536 ||| (((w &&& 240) >>> 4 % 256) <<< 4) % 65536 == w) = true := all_words (fun w => (w &&& 61695 &&& 65295) ||| (((w &&& 3840) >>> 8 % 256) <<< 8) % 65536 ||| (((w &&& 240) >>> 4 % 256) <<< 4) % 65536 == w) (by decide +kernel) w hw
theorem word_xb (w : Nat) (hw : w < 65536) : ((w &&& 61695 &&& 65280) ||| (((w &&& 3840) >>> 8 % 256) <<< 8) % 65536 ||| (((w &&& 255) >>> 0 % 256) <<< 0) % 65536 == w) = true := all_words (fun w => (w &&& 61695 &&& 65280) ||| (((w &&& 3840) >>> 8 % 256) <<< 8) % 65536 ||| (((w &&& 255) >>> 0 % 256) <<< 0) % 65536 == w) (by decide +kernel) w hw
theorem word_xyn (w : Nat) (hw : w < 65536) : ((w &&& 61695 &&& 65295 &&& 65520) ||| (((w &&& 3840) >>> 8 % 256) <<< 8) % 65536 ||| (((w &&& 240) >>> 4 % 256) <<< 4) % 65536 ||| (((w &&& 15) >>> 0 % 256) <<< 0) % 65536 == w) = true := all_words (fun w => (w &&& 61695 &&& 65295 &&& 65520) ||| (((w &&& 3840) >>> 8 % 256) <<< 8) % 65536 ||| (((w &&& 240) >>> 4 % 256) <<< 4) % 65536 ||| (((w &&& 15) >>> 0 % 256) <<< 0) % 65536 == w) (by decide +kernel) w hw
theorem ordR_op (i w : Nat) (hi : i < 31) : (ordR i w).op = opR i := by
  unfold ordR
  rcases fs_pats i hi with e | e | e | e | e | e <;> rw [e] <;> rfl
theorem word_back (i w : Nat) (hi : i < 31) (hw : w < 65536) (h : takR i w = true) : wrdR i (ordR i w) = w := by
  unfold takR at h
  have h' := beq_iff_eq.1 h
  unfold wrdR ordR
  rw [← h']
  rcases fs_pats i hi with e | e | e | e | e | e <;> rw [e]
  · rfl
  · exact beq_iff_eq.1 (word_x w hw)
  · exact beq_iff_eq.1 (word_a w hw)
  · exact beq_iff_eq.1 (word_xy w hw)
  · exact beq_iff_eq.1 (word_xb w hw)
  · exact beq_iff_eq.1 (word_xyn w hw)
theorem decO_some {w i : Nat} (h : decR w = some i) : decO w = ordR i w := by unfold decO; rw [h]
/-- A word's order has that word. -/
theorem enc_dec (w : Nat) (hw : w < 65536) (h : decB w = true) : encW (decO w) = some w := by
  obtain ⟨i, hi⟩ := Option.isSome_iff_exists.1 h
  obtain ⟨h1, h2, _⟩ := fstI_of hi
  have e := decO_some hi
  have er := rowO_row i h1 (decO w) (by rw [e]; exact ordR_op i w h1)
  have ew : wrdR i (decO w) = w := by rw [e]; exact word_back i w h1 hw h2
  unfold encW
  rw [er]
  simp only [ew, h, Bool.true_and]
  rw [if_pos (Od.same_iff.2 rfl)]
theorem dec_none (w : Nat) (h : decB w = false) : decO w = od0 := by
  unfold decO
  unfold decB at h
  rw [Option.isSome_eq_false_iff] at h
  rw [Option.isNone_iff_eq_none.1 h]
/-- Values fit in their digits. -/
theorem fldV_lt (k w : Nat) (hk : k < 5) : fldV k w < 16 ^ digK k := by
  match k, hk with
  | 0, _ => exact Nat.lt_of_le_of_lt (show (w &&& 3840) >>> 8 ≤ 15 by rw [Nat.shiftRight_eq_div_pow]; have := @Nat.and_le_right w 3840; omega) (by decide)
  | 1, _ => exact Nat.lt_of_le_of_lt (show (w &&& 240) >>> 4 ≤ 15 by rw [Nat.shiftRight_eq_div_pow]; have := @Nat.and_le_right w 240; omega) (by decide)
  | 2, _ => exact Nat.lt_of_le_of_lt (show (w &&& 15) >>> 0 ≤ 15 from @Nat.and_le_right w 15) (by decide)
  | 3, _ => exact Nat.lt_of_le_of_lt (show (w &&& 255) >>> 0 ≤ 255 from @Nat.and_le_right w 255) (by decide)
  | 4, _ => exact Nat.lt_of_le_of_lt (show (w &&& 4095) >>> 0 ≤ 4095 from @Nat.and_le_right w 4095) (by decide)
theorem getK_ord (i w k : Nat) (hi : i < 31) (hk : k ∈ fsR i) : getK k (ordR i w) < 16 ^ digK k := by
  have b0 := fldV_lt 0 w (by omega)
  have b1 := fldV_lt 1 w (by omega)
  have b2 := fldV_lt 2 w (by omega)
  have b3 := fldV_lt 3 w (by omega)
  have b4 := fldV_lt 4 w (by omega)
  have e0 : fldV 0 w % 256 = fldV 0 w := Nat.mod_eq_of_lt (Nat.lt_trans b0 (by decide))
  have e1 : fldV 1 w % 256 = fldV 1 w := Nat.mod_eq_of_lt (Nat.lt_trans b1 (by decide))
  have e2 : fldV 2 w % 256 = fldV 2 w := Nat.mod_eq_of_lt (Nat.lt_trans b2 (by decide))
  have e3 : fldV 3 w % 256 = fldV 3 w := Nat.mod_eq_of_lt (Nat.lt_of_lt_of_le b3 (by decide))
  unfold ordR
  rcases fs_pats i hi with e | e | e | e | e | e <;> rw [e] at hk ⊢ <;> simp only [List.mem_cons, List.not_mem_nil, or_false] at hk
  · subst hk; show fldV 0 w % 256 < _; rw [e0]; exact b0
  · subst hk; exact b4
  · rcases hk with rfl | rfl
    · show fldV 0 w % 256 < _; rw [e0]; exact b0
    · show fldV 1 w % 256 < _; rw [e1]; exact b1
  · rcases hk with rfl | rfl
    · show fldV 0 w % 256 < _; rw [e0]; exact b0
    · show fldV 3 w % 256 < _; rw [e3]; exact b3
  · rcases hk with rfl | rfl | rfl
    · show fldV 0 w % 256 < _; rw [e0]; exact b0
    · show fldV 1 w % 256 < _; rw [e1]; exact b1
    · show fldV 2 w % 256 < _; rw [e2]; exact b2
/-- What is known of an order that has a word. -/
theorem enc_row {o : Od} {w : Nat} (h : encW o = some w) : ∃ i, i < 31 ∧ rowO o = some i ∧ o.op = opR i ∧ (∀ k ∈ fsR i, getK k o < 16 ^ digK k) ∧ o = ordR i w := by
  obtain ⟨i, h1, h2, h3, h4⟩ := encW_of h
  obtain ⟨j, hj⟩ := Option.isSome_iff_exists.1 h3
  obtain ⟨j1, j2, _⟩ := fstI_of hj
  obtain ⟨i1, i2, _⟩ := fstI_of h1
  have e := decO_some hj
  have eo : o.op = opR j := by rw [← h4, e]; exact ordR_op j w j1
  have ij : i = j := op_row j j1 i i1 (by rw [← eo]; exact beq_iff_eq.1 i2)
  subst ij
  refine ⟨i, i1, h1, eo, fun k hk => ?_, by rw [← h4, e]⟩
  have := getK_ord i w k j1 hk
  rwa [← e, h4] at this
end Go.Proofs.YthaijjehplomfaaDoor
