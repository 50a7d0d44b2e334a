/- A CHIP-8 machine by itself, plain: what an order makes of it. -/
import Derived.Test.YtfkifppadngmdaaP0
import Derived.Test.YtfkifppadngmdaaD0
namespace Go.Proofs.Ytfkifppadngmdaa
open Go
set_option linter.unusedVariables false
set_option maxHeartbeats 1000000
set_option maxRecDepth 20000

/-- A machine. -/
structure Gm where
  v : List UInt8
  i : Nat
  pc : Nat
  st : List Nat
  de : UInt8
  so : UInt8
  pg : List UInt8
  me : List UInt8
deriving DecidableEq
/-- A font. -/
structure Fo where
  pl : List Nat
  fr : Nat
  by_ : List UInt8
/-- A feed. -/
structure Fd where
  rn : UInt8
  ks : Nat
  ky : Int
def gz : Gm := ⟨List.replicate 16 0, 0, 0, [], 0, 0, [], []⟩
/-- It may be. -/
def Gm.may (g : Gm) : Bool := g.pg.length == 256 && (g.me.length == 3232 && decide (g.st.length ≤ 12))
/-- What a machine in memory is anyway. -/
structure Gm.Ok (g : Gm) : Prop where
  v : g.v.length = 16
  i : g.i < 65536
  pc : g.pc < 65536
  st : ∀ s ∈ g.st, s < 65536
theorem gz_ok : gz.Ok := ⟨rfl, by decide, by decide, by simp [gz]⟩
def newG (p : List UInt8) : Gm := ⟨List.replicate 16 0, 0, 512, [], 0, 0, List.replicate 256 0, p ++ List.replicate (3232 - p.length) 0⟩
def inM (a : Nat) : Bool := decide (512 ≤ a) && decide (a < 3744)
/-- The word at PC. -/
def wordG (g : Gm) : Nat := (g.me.getD (g.pc - 512) 0).toNat * 256 + (g.me.getD (g.pc + 1 - 512) 0).toNat
theorem word_lt (g : Gm) : wordG g < 65536 := by
  have h1 := (g.me.getD (g.pc - 512) 0).toNat_lt
  have h2 := (g.me.getD (g.pc + 1 - 512) 0).toNat_lt
  unfold wordG
  omega
/-- The order at PC and what is said of it. -/
def nextG (g : Gm) : Od × Nat :=
  if g.may then
    if inM g.pc && inM (g.pc + 1) then
      if decB (wordG g) then (decO (wordG g), if (decO (wordG g)).op = 1 then 3 else 1) else (od0, 4)
    else (od0, 7)
  else (od0, 0)
/-- The byte at an address. -/
def atG (g : Gm) (f : Fo) (a : Nat) : Option UInt8 :=
  if inM a then some (g.me.getD (a - 512) 0) else if f.fr ≤ a ∧ a - f.fr < f.by_.length then some (f.by_.getD (a - f.fr) 0) else none
/-- So many bytes from an address on. -/
def readG (g : Gm) (f : Fo) (a : Nat) : Nat → Option (List UInt8)
  | 0 => some []
  | n + 1 => match readG g f a n with
    | none => none
    | some l => match atG g f (a + n) with
      | none => none
      | some b => some (l ++ [b])
/-- The first j bytes of l, laid from k on. -/
def wr (m : List UInt8) (k : Nat) (l : List UInt8) : Nat → List UInt8
  | 0 => m
  | j + 1 => (wr m k l j).set (k + j) (l.getD j 0)
def fitG (a n : Nat) : Bool := decide (512 ≤ a) && decide (a + n ≤ 3744)
def skipG (g : Gm) (b : Bool) : Gm := if b then { g with pc := (g.pc + 2) % 65536 } else g
def oneG (b : Bool) : UInt8 := if b then 1 else 0
def setG (g : Gm) (x : Nat) (b : UInt8) : Gm := { g with v := g.v.set x b }
/-- What an order does; PC is behind it. -/
def doG (g : Gm) (o : Od) (f : Fo) (d : Fd) : Gm × Nat :=
  let x := g.v.getD o.x 0
  let y := g.v.getD o.y 0
  match o.op with
  | 2 => ({ g with pg := List.replicate 256 0 }, 1)
  | 3 => if g.st.length = 0 then (g, 6) else ({ g with pc := g.st.getD (g.st.length - 1) 0, st := g.st.take (g.st.length - 1) }, 1)
  | 4 => ({ g with pc := o.a }, 1)
  | 5 => if g.st.length = 12 then (g, 5) else ({ g with st := g.st ++ [g.pc], pc := o.a }, 1)
  | 6 => (skipG g (x.toNat == o.b), 1)
  | 7 => (skipG g (x.toNat != o.b), 1)
  | 8 => (skipG g (x == y), 1)
  | 9 => (setG g o.x (UInt8.ofNat o.b), 1)
  | 10 => (setG g o.x (x + UInt8.ofNat o.b), 1)
  | 11 => (setG g o.x y, 1)
  | 12 => (setG (setG g o.x (x ||| y)) 15 0, 1)
  | 13 => (setG (setG g o.x (x &&& y)) 15 0, 1)
  | 14 => (setG (setG g o.x (x + y)) 15 (oneG (decide (255 < x.toNat + y.toNat))), 1)
  | 15 => (setG (setG g o.x (x - y)) 15 (oneG (decide (y.toNat ≤ x.toNat))), 1)
  | 16 => (skipG g (x != y), 1)
  | 17 => ({ g with i := o.a }, 1)
  | 18 => ({ g with pc := (o.a + (g.v.getD 0 0).toNat) % 65536 }, 1)
  | 19 => (setG g o.x (d.rn &&& UInt8.ofNat o.b), 1)
  | 20 => match readG g f g.i o.n with
    | none => (g, 7)
    | some l => (setG { g with pg := (drawS (x.toNat % 64) (y.toNat % 32) l g.pg (8 * l.length)).1 } 15 (oneG (drawS (x.toNat % 64) (y.toNat % 32) l g.pg (8 * l.length)).2), 1)
  | 21 => (skipG g (d.ks >>> (x.toNat % 16) % 2 == 1), 1)
  | 22 => (skipG g (d.ks >>> (x.toNat % 16) % 2 == 0), 1)
  | 23 => (setG g o.x g.de, 1)
  | 24 => if d.ky < 0 then (g, 2) else (setG g o.x (UInt8.ofNat d.ky.toNat), 1)
  | 25 => ({ g with de := x }, 1)
  | 26 => ({ g with so := x }, 1)
  | 27 => ({ g with i := (g.i + x.toNat) % 65536 }, 1)
  | 28 => ({ g with i := f.pl.getD (x.toNat % 16) 0 }, 1)
  | 29 => if fitG g.i 3 then ({ g with me := wr g.me (g.i - 512) [x / 100, x / 10 % 10, x % 10] 3 }, 1) else (g, 7)
  | 30 => if fitG g.i (o.x + 1) then ({ g with me := wr g.me (g.i - 512) g.v (o.x + 1), i := (g.i + (o.x + 1)) % 65536 }, 1) else (g, 7)
  | 31 => match readG g f g.i (o.x + 1) with
    | none => (g, 7)
    | some l => ({ g with v := wr g.v 0 l (o.x + 1), i := (g.i + (o.x + 1)) % 65536 }, 1)
  | _ => (g, 1)
def fontG (f : Fo) : Bool := decide (f.fr + f.by_.length ≤ 65536)
def Gm.on (g : Gm) : Gm := { g with pc := (g.pc + 2) % 65536 }
/-- One order: the machine, what became of it, the error. -/
def stepG (g : Gm) (f : Fo) (d : Fd) : Gm × Nat × Nat :=
  if g.may then
    if fontG f && decide (d.ky ≤ 15) then
      if (nextG g).2 = 1 then
        if (doG g.on (nextG g).1 f d).2 = 1 then ((doG g.on (nextG g).1 f d).1, 1, 0) else (g, (doG g.on (nextG g).1 f d).2, 0)
      else (g, (nextG g).2, 0)
    else (gz, 0, 1)
  else (gz, 0, 180)
def tickG (g : Gm) : Gm := if g.may then { g with de := if g.de = 0 then 0 else g.de - 1, so := if g.so = 0 then 0 else g.so - 1 } else gz

theorem wr_len (m : List UInt8) (k : Nat) (l : List UInt8) (j : Nat) : (wr m k l j).length = m.length := by
  induction j with
  | zero => rfl
  | succ j ih => simp [wr, ih]
theorem wr_out (m : List UInt8) (k : Nat) (l : List UInt8) (j a : Nat) (h : a < k ∨ k + j ≤ a) : (wr m k l j).getD a 0 = m.getD a 0 := by
  induction j with
  | zero => rfl
  | succ j ih =>
    have h1 := ih (by omega)
    simp only [wr, List.getD_eq_getElem?_getD] at h1 ⊢
    rw [List.getElem?_set_ne (by omega)]
    exact h1
theorem wr_in (m : List UInt8) (k : Nat) (l : List UInt8) (j a : Nat) (h : a < j) (hk : k + a < m.length) : (wr m k l j).getD (k + a) 0 = l.getD a 0 := by
  induction j with
  | zero => omega
  | succ j ih =>
    simp only [wr, List.getD_eq_getElem?_getD]
    rcases Nat.lt_or_ge a j with c | c
    · have h1 := ih c
      simp only [List.getD_eq_getElem?_getD] at h1
      rw [List.getElem?_set_ne (by omega)]
      exact h1
    · obtain rfl : a = j := by omega
      rw [List.getElem?_set_self (by rw [wr_len]; exact hk)]
      simp
/-- All of it laid at once. -/
theorem wr_all (m : List UInt8) (k : Nat) (l : List UInt8) (j : Nat) (hj : j ≤ l.length) (hk : k + j ≤ m.length) : wr m k l j = m.take k ++ (l.take j ++ m.drop (k + j)) := by
  refine List.ext_getElem (by simp [wr_len]; omega) fun a h1 h2 => ?_
  have hm : a < m.length := by rw [wr_len] at h1; exact h1
  have e1 : (wr m k l j)[a] = (wr m k l j).getD a 0 := by simp [List.getD_eq_getElem?_getD, h1]
  rw [e1]
  rcases Nat.lt_or_ge a k with c | c
  · rw [wr_out _ _ _ _ _ (.inl c), List.getElem_append_left (by simp; omega)]
    simp [List.getD_eq_getElem?_getD, hm]
  · rw [List.getElem_append_right (by simp; omega)]
    rcases Nat.lt_or_ge a (k + j) with c2 | c2
    · obtain ⟨b, rfl⟩ : ∃ b, a = k + b := ⟨a - k, by omega⟩
      rw [wr_in _ _ _ _ _ (by omega) hm, List.getElem_append_left (by simp; omega)]
      have hb : b < l.length := by omega
      have e2 : k + b - (List.take k m).length = b := by simp; omega
      simp only [e2, List.getElem_take, List.getD_eq_getElem?_getD, List.getElem?_eq_getElem hb, Option.getD_some]
    · rw [wr_out _ _ _ _ _ (.inr c2), List.getElem_append_right (by simp; omega)]
      have e2 : k + j + (a - (List.take k m).length - (List.take j l).length) = a := by simp; omega
      simp only [List.getElem_drop, e2, List.getD_eq_getElem?_getD, List.getElem?_eq_getElem hm, Option.getD_some]
theorem read_length {g : Gm} {f : Fo} {a : Nat} : ∀ {n : Nat} {l : List UInt8}, readG g f a n = some l → l.length = n
  | 0, l, h => by simp [readG] at h; subst h; rfl
  | n + 1, l, h => by
    simp only [readG] at h
    split at h
    · cases h
    · rename_i l' hl
      split at h
      · cases h
      · cases h
        simp [read_length hl]
/-- What is read hangs on the memory and the font alone. -/
theorem read_same {g g' : Gm} (f : Fo) (a : Nat) (h : g'.me = g.me) : ∀ n, readG g' f a n = readG g f a n
  | 0 => rfl
  | n + 1 => by
    simp only [readG, read_same f a h n]
    have : atG g' f (a + n) = atG g f (a + n) := by unfold atG; rw [h]
    rw [this]
end Go.Proofs.Ytfkifppadngmdaa
