/- A span's line as words with one blank between each two, and back. -/
import Derived.Test.YthpahpfnpapoiaaDoorXa
import Derived.Test.YthpahpfnpapoiaaDoorText
import Derived.Lib.ItoaNum
namespace Go.Proofs.YthpahpfnpapoiaaDoor
open Go Go.RowKit
set_option linter.unusedVariables false
set_option maxHeartbeats 400000

def wKeys : List UInt8 := [107, 101, 121, 115]
def wTape : List UInt8 := [116, 97, 112, 101]
def wFlag : List UInt8 := [102, 108, 97, 103]
def wIn : List UInt8 := [105, 110]
def wOut : List UInt8 := [111, 117, 116]
def wInt : List UInt8 := [105, 110, 116]
def wClear : List UInt8 := [99, 108, 101, 97, 114]
def wWait : List UInt8 := [119, 97, 105, 116]
def wBus : List UInt8 := [98, 117, 115]
/-- The words behind the first. -/
def restW (a : At) : List (List UInt8) :=
  (if a.Ke ≠ 0 then [wKeys, hexL 4 a.Ke.toNat] else []) ++ ((if a.Ta then [wTape] else []) ++ ((if a.Fl then [wFlag] else []) ++ ((if a.DI then [wIn] else []) ++ ((if a.DO then [wOut] else []) ++ ((if a.In then [wInt] else []) ++ ((if a.Cl then [wClear] else []) ++ ((if a.Wa then [wWait] else []) ++ (if a.Bu ≠ 0 then [wBus, hexL 2 a.Bu.toNat] else []))))))))
def joinT : List (List UInt8) → List UInt8
  | [] => []
  | w :: r => 32 :: (w ++ joinT r)
theorem joinT_app (a b : List (List UInt8)) : joinT (a ++ b) = joinT a ++ joinT b := by
  induction a with
  | nil => rfl
  | cons w a ih => simp only [List.cons_append, joinT, ih, List.append_assoc]
/-- A span's line. -/
def lineL (s : Sn) : List UInt8 := Lib.itoa s.c ++ joinT (restW s.a)
def splitW : List UInt8 → List (List UInt8)
  | [] => [[]]
  | b :: l => if b = 32 then [] :: splitW l else match splitW l with | w :: r => (b :: w) :: r | [] => [[b]]
theorem splitW_cons (b : UInt8) (l : List UInt8) : splitW (b :: l) = if b = 32 then [] :: splitW l else match splitW l with | w :: r => (b :: w) :: r | [] => [[b]] := rfl
theorem splitW_ne (l : List UInt8) : splitW l ≠ [] := by
  cases l with
  | nil => simp [splitW]
  | cons b l =>
    unfold splitW
    split
    · simp
    · split <;> simp
theorem splitW_word (w : List UInt8) : ∀ l, (∀ b ∈ w, b ≠ 32) → (l = [] ∨ ∃ r, l = 32 :: r) → splitW (w ++ l) = w :: (match l with | [] => [] | _ :: r => splitW r) := by
  induction w with
  | nil =>
    intro l _ hl
    rcases hl with rfl | ⟨r, rfl⟩
    · rfl
    · simp [splitW]
  | cons b w ih =>
    intro l hw hl
    rw [List.cons_append, splitW_cons, if_neg (hw b (by simp)), ih l (fun c hc => hw c (by simp [hc])) hl]
def noBlank (ws : List (List UInt8)) : Prop := ∀ w ∈ ws, ∀ b ∈ w, b ≠ 32
theorem split_join (r : List (List UInt8)) : ∀ w, (∀ b ∈ w, b ≠ 32) → noBlank r → splitW (w ++ joinT r) = w :: r := by
  induction r with
  | nil => intro w hw _; exact splitW_word w [] hw (.inl rfl)
  | cons v r ih =>
    intro w hw hr
    rw [splitW_word w (joinT (v :: r)) hw (.inr ⟨_, rfl⟩)]
    show w :: splitW (v ++ joinT r) = _
    rw [ih v (hr v (by simp)) (fun x hx => hr x (by simp [hx]))]
theorem join_split (l : List UInt8) : ∃ w r, splitW l = w :: r ∧ w ++ joinT r = l := by
  induction l with
  | nil => exact ⟨[], [], rfl, rfl⟩
  | cons b l ih =>
    obtain ⟨w, r, h1, h2⟩ := ih
    unfold splitW
    by_cases hb : b = 32
    · rw [if_pos hb]
      subst hb
      exact ⟨[], _, rfl, by rw [h1]; simp only [List.nil_append, joinT, h2]⟩
    · rw [if_neg hb, h1]
      exact ⟨b :: w, r, rfl, by rw [List.cons_append, h2]⟩
/-- What a row of hexadecimal digits is worth; 0: none. -/
def hexV (r : List (List UInt8)) : Int := match r with
  | [] => 0
  | x :: _ => match numOf ⟨x.toArray⟩ with | some n => if n ≤ 65535 then n else 0 | none => 0
def stepW (w : List UInt8) (r : List (List UInt8)) (a : At) : At :=
  if w = wKeys then { a with Ke := hexV r } else if w = wTape then { a with Ta := true } else if w = wFlag then { a with Fl := true } else if w = wIn then { a with DI := true } else if w = wOut then { a with DO := true }
  else if w = wInt then { a with In := true } else if w = wClear then { a with Cl := true } else if w = wWait then { a with Wa := true } else if w = wBus then { a with Bu := hexV r % 256 } else a
def readGo : List (List UInt8) → At → At
  | [], a => a
  | w :: r, a => readGo r (stepW w r a)
/-- What a row of decimal digits is worth, as far as seven go; -1: none. -/
def decGo : List UInt8 → Int → Int
  | [], n => n
  | b :: l, n => if b.toNat < 48 ∨ 57 < b.toNat then -1 else decGo l (10 * n + (b.toNat - 48))
def decS (w : List UInt8) : Int := if w.length < 1 ∨ 7 < w.length then -1 else decGo w 0
def zA : At := ⟨0, false, false, false, false, false, false, false, 0⟩
/-- The span of a line's words. -/
def readS (ws : List (List UInt8)) : Sn := match ws with | [] => ⟨-1, zA⟩ | w :: r => ⟨decS w, readGo r zA⟩
def spanB (s : Sn) (line : List UInt8) : Bool := decide (1 ≤ s.c) && decide (s.c ≤ 1048576) && decide (lineL s = line)
def spanOf (line : List UInt8) : Option Sn := if 100 < line.length then none else if spanB (readS (splitW line)) line then some (readS (splitW line)) else none

theorem decGo_app (l r : List UInt8) : ∀ n, 0 ≤ n → decGo l n = -1 ∨ decGo (l ++ r) n = decGo r (decGo l n) := by
  induction l with
  | nil => intro n _; exact .inr rfl
  | cons b l ih =>
    intro n hn
    simp only [List.cons_append, decGo]
    split
    · exact .inl rfl
    · rename_i h
      exact ih _ (by omega)
theorem dec_digits (u : Nat) : decGo (Lib.decDigits u) 0 = (u : Int) := by
  induction u using Nat.strongRecOn with
  | _ u ih =>
    rw [Lib.decDigits]
    split
    · rename_i h
      have e : (UInt8.ofNat (48 + u)).toNat = 48 + u := by simp [UInt8.toNat_ofNat']; omega
      simp only [decGo, e]
      rw [if_neg (by omega)]
      omega
    · rename_i h
      have h1 := ih (u / 10) (by omega)
      have e : (UInt8.ofNat (48 + u % 10)).toNat = 48 + u % 10 := by simp [UInt8.toNat_ofNat']; omega
      rcases decGo_app (Lib.decDigits (u / 10)) [UInt8.ofNat (48 + u % 10)] 0 (Int.le_refl _) with h2 | h2
      · rw [h1] at h2; omega
      · rw [h2, h1]
        simp only [decGo, e]
        rw [if_neg (by omega)]
        omega
theorem digits_len (u : Nat) : (Lib.decDigits u).length = Lib.nDigits u := by
  rw [Lib.decDigits_eq]
  simp
theorem digits_byte (u : Nat) : ∀ b ∈ Lib.decDigits u, 48 ≤ b.toNat ∧ b.toNat ≤ 57 := by
  induction u using Nat.strongRecOn with
  | _ u ih =>
    rw [Lib.decDigits]
    split
    · rename_i h
      have e : (UInt8.ofNat (48 + u)).toNat = 48 + u := by simp [UInt8.toNat_ofNat']; omega
      intro b hb
      have hb := List.mem_singleton.1 hb
      subst hb
      omega
    · rename_i h
      have e : (UInt8.ofNat (48 + u % 10)).toNat = 48 + u % 10 := by simp [UInt8.toNat_ofNat']; omega
      intro b hb
      rcases List.mem_append.1 hb with hb | hb
      · exact ih (u / 10) (by omega) b hb
      · have hb := List.mem_singleton.1 hb
        subst hb
        omega
theorem nDigits_le (u : Nat) (h : u < 10000000) : Lib.nDigits u ≤ 7 := by
  by_cases h7 : Lib.nDigits u ≤ 7
  · exact h7
  · exfalso
    have key : ∀ k v : Nat, k < Lib.nDigits v → 10 ^ k ≤ v ∨ k = 0 := by
      intro k
      induction k with
      | zero => intro v _; exact .inr rfl
      | succ k ih =>
        intro v hv
        by_cases hs : v < 10
        · rw [Lib.nDigits_small hs] at hv; omega
        · rw [Lib.nDigits_big hs] at hv
          left
          rcases ih (v / 10) (by omega) with h1 | h1
          · rw [Nat.pow_succ]; omega
          · subst h1; simp; omega
    rcases key 7 u (by omega) with h1 | h1
    · simp at h1; omega
    · omega
theorem itoa_dec (c : Int) (h0 : 1 ≤ c) (h1 : c ≤ 1048576) : decS (Lib.itoa c) = c ∧ (Lib.itoa c).length ≤ 7 ∧ ∀ b ∈ Lib.itoa c, 48 ≤ b.toNat ∧ b.toNat ≤ 57 := by
  have e : Lib.itoa c = Lib.decDigits c.toNat := by unfold Lib.itoa; rw [if_neg (by omega)]
  rw [e]
  have hl := nDigits_le c.toNat (by omega)
  have hp := Lib.nDigits_pos c.toNat
  have hd := digits_len c.toNat
  refine ⟨?_, by omega, digits_byte _⟩
  unfold decS
  rw [if_neg (by omega), dec_digits]
  omega
theorem hex_byte (D N : Nat) : ∀ b ∈ hexL D N, 48 ≤ b.toNat ∧ b.toNat ≤ 102 := by
  intro b hb
  obtain ⟨j, hj⟩ := List.getElem?_of_mem hb
  obtain ⟨hl, e⟩ := List.getElem?_eq_some_iff.1 hj
  have h1 := hexL_get D N j hl
  rw [e] at h1
  have h2 := hexAt_hi D N j
  have h3 : 48 ≤ hexAt D N j := by
    unfold hexAt hexC
    split <;> omega
  omega
theorem hex_word (D N : Nat) (w : List UInt8) (hw : ∃ b ∈ w, 102 < b.toNat) : hexL D N ≠ w := fun e => by
  obtain ⟨b, hb, h⟩ := hw
  rw [← e] at hb
  have := hex_byte D N b hb
  omega
theorem hex_step (D N : Nat) (r : List (List UInt8)) (a : At) : stepW (hexL D N) r a = a := by
  unfold stepW
  rw [if_neg (hex_word D N _ ⟨107, by decide, by decide⟩), if_neg (hex_word D N _ ⟨116, by decide, by decide⟩), if_neg (hex_word D N _ ⟨108, by decide, by decide⟩), if_neg (hex_word D N _ ⟨105, by decide, by decide⟩), if_neg (hex_word D N _ ⟨111, by decide, by decide⟩),
    if_neg (hex_word D N _ ⟨105, by decide, by decide⟩), if_neg (hex_word D N _ ⟨108, by decide, by decide⟩), if_neg (hex_word D N _ ⟨119, by decide, by decide⟩), if_neg (hex_word D N _ ⟨117, by decide, by decide⟩)]
theorem hexV_hex (D N : Nat) (hD : 1 ≤ D ∧ D ≤ 8) (hN : N < 16 ^ D) (h : N ≤ 65535) (r : List (List UInt8)) : hexV (hexL D N :: r) = (N : Int) := by
  have e : numOf ⟨(hexL D N).toArray⟩ = some (N : Int) := by
    unfold numOf
    have hs : (ByteArray.mk (hexL D N).toArray).size = D := by show (hexL D N).toArray.size = D; simp [hexL_len]
    rw [if_pos (by rw [hs]; exact hD)]
    exact numGo_hexL D N hN
  simp only [hexV, e]
  rw [if_pos (by omega)]
/-- A span as it may stand in a script's text. -/
structure Good (s : Sn) : Prop where
  c0 : 1 ≤ s.c
  c1 : s.c ≤ 1048576
  k0 : 0 ≤ s.a.Ke
  k1 : s.a.Ke ≤ 65535
  b0 : 0 ≤ s.a.Bu
  b1 : s.a.Bu ≤ 255
theorem read_if (b : Bool) (w : List UInt8) (f : At → At) (hs : ∀ r a, stepW w r a = f a) (r : List (List UInt8)) (a : At) : readGo ((if b then [w] else []) ++ r) a = readGo r (if b then f a else a) := by
  cases b
  · rfl
  · show readGo r (stepW w r a) = _
    rw [hs]
    rfl
theorem read_rest (a : At) (k0 : 0 ≤ a.Ke) (k1 : a.Ke ≤ 65535) (b0 : 0 ≤ a.Bu) (b1 : a.Bu ≤ 255) : readGo (restW a) zA = a := by
  unfold restW
  have hk : ∀ r z, readGo ((if a.Ke ≠ 0 then [wKeys, hexL 4 a.Ke.toNat] else []) ++ r) z = readGo r (if a.Ke ≠ 0 then { z with Ke := a.Ke } else z) := by
    intro r z
    by_cases h : a.Ke ≠ 0
    · rw [if_pos h, if_pos h]
      show readGo r (stepW (hexL 4 a.Ke.toNat) r (stepW wKeys (hexL 4 a.Ke.toNat :: r) z)) = _
      rw [hex_step]
      congr 1
      unfold stepW
      rw [if_pos rfl, hexV_hex 4 a.Ke.toNat (by decide) (by show _ < 65536; omega) (by omega)]
      congr 1
      omega
    · rw [if_neg h, if_neg h]; rfl
  have hb : ∀ z, readGo (if a.Bu ≠ 0 then [wBus, hexL 2 a.Bu.toNat] else []) z = (if a.Bu ≠ 0 then { z with Bu := a.Bu } else z) := by
    intro z
    by_cases h : a.Bu ≠ 0
    · rw [if_pos h, if_pos h]
      show stepW (hexL 2 a.Bu.toNat) [] (stepW wBus [hexL 2 a.Bu.toNat] z) = _
      rw [hex_step]
      unfold stepW
      rw [if_neg (by decide), if_neg (by decide), if_neg (by decide), if_neg (by decide), if_neg (by decide), if_neg (by decide), if_neg (by decide), if_neg (by decide), if_pos rfl, hexV_hex 2 a.Bu.toNat (by decide) (by show _ < 256; omega) (by omega)]
      congr 1
      omega
    · rw [if_neg h, if_neg h]; rfl
  rw [hk, read_if _ wTape (fun z => { z with Ta := true }) (fun r z => by unfold stepW; rw [if_neg (by decide), if_pos rfl]),
    read_if _ wFlag (fun z => { z with Fl := true }) (fun r z => by unfold stepW; rw [if_neg (by decide), if_neg (by decide), if_pos rfl]),
    read_if _ wIn (fun z => { z with DI := true }) (fun r z => by unfold stepW; rw [if_neg (by decide), if_neg (by decide), if_neg (by decide), if_pos rfl]),
    read_if _ wOut (fun z => { z with DO := true }) (fun r z => by unfold stepW; rw [if_neg (by decide), if_neg (by decide), if_neg (by decide), if_neg (by decide), if_pos rfl]),
    read_if _ wInt (fun z => { z with In := true }) (fun r z => by unfold stepW; rw [if_neg (by decide), if_neg (by decide), if_neg (by decide), if_neg (by decide), if_neg (by decide), if_pos rfl]),
    read_if _ wClear (fun z => { z with Cl := true }) (fun r z => by unfold stepW; rw [if_neg (by decide), if_neg (by decide), if_neg (by decide), if_neg (by decide), if_neg (by decide), if_neg (by decide), if_pos rfl]),
    read_if _ wWait (fun z => { z with Wa := true }) (fun r z => by unfold stepW; rw [if_neg (by decide), if_neg (by decide), if_neg (by decide), if_neg (by decide), if_neg (by decide), if_neg (by decide), if_neg (by decide), if_pos rfl]), hb]
  obtain ⟨ke, ta, fl, di, d2, i2, cl, wa, bu⟩ := a
  simp only [zA]
  by_cases h1 : ke = 0 <;> by_cases h2 : bu = 0 <;> cases ta <;> cases fl <;> cases di <;> cases d2 <;> cases i2 <;> cases cl <;> cases wa <;> simp [h1, h2]
end Go.Proofs.YthpahpfnpapoiaaDoor
