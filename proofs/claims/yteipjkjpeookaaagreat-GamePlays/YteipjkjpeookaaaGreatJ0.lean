/- From a walk that turns nothing that was there to what a row asks behind the call. Orders of CHIP-8, plain: their rows, a word as an order and back. Pages of dots: rows laid on them, and their texts: mathematics. A CHIP-8 machine by itself, plain: what an order makes of it. -/
import Derived.Test.YteipjkjpeookaaaGreatRows
import Derived.WalkKit
import Derived.ProofKit
import Derived.OpenShut
import Derived.Laws.BitsLemmas
import Derived.Laws.BitsAllLaws
import Derived.Laws.RangeAny
import Derived.Lib.SplitLaws
import Derived.Test.YteipjkjpeookaaaGreatProg
namespace Go.Proofs.YteipjkjpeookaaaGreat
open Go.ChangeShapes Go.WideShapes Go.ChangeAt Go.RowKit

theorem own : ownKnob Tryz.prog.godebug = none := by kernel_rfl

theorem post_of_below {H : Type} {enc : TypeId × Value → H} {P : Program} {f : Func} {s : ChangeSpec} {apart fresh handsOn : Bool} {W W' : World} {args : Array Value} {v : Value} {ds gs : List (DataW H)} {before pa pv : List MemPlace}
    (hW : DataW.Whole enc P f.params.toList s.vars apart W args.toList ds gs before)
    (hres : ∀ (b : Nat) (sp : Nat → Bool) (hd : Bool), DataW.TrodAll enc P W' b sp hd f.resultTypes.toList (v.resultList f.resultTypes.size) (s.fn H (ds ++ gs)).results [])
    (hargs : ∀ sp : Nat → Bool, (∀ p ∈ before, sp p.block = true) → DataW.TrodAll enc P W' 0 sp true f.params.toList args.toList (s.fn H (ds ++ gs)).args pa)
    (hvars : ∀ sp : Nat → Bool, (∀ p ∈ before, sp p.block = true) → DataW.TrodVars enc P W' sp s.vars (s.fn H (ds ++ gs)).vars pv)
    (hb : Below W.heap.size W W') : s.post enc P f apart fresh handsOn false W args v W' := by
  have hold : ∀ p ∈ before, (fun b => decide (b < W.heap.size)) p.block = true := fun p hp => by simpa using hW.lt p hp
  exact ⟨ds, gs, before, [], pa, pv, hW, hres _ _ _, hargs _ hold, hvars _ hold, hb.frame _, fun h => by cases h⟩
end Go.Proofs.YteipjkjpeookaaaGreat

namespace Go.Proofs.YteipjkjpeookaaaGreat
open Go Go.RowKit
set_option linter.unusedVariables false
set_option maxHeartbeats 1000000
set_option maxRecDepth 100000

/-- An order: its Op and its fields. -/
structure Od where
  op : Nat
  x : Nat
  y : Nat
  n : Nat
  b : Nat
  a : Nat
def od0 : Od := ⟨0, 0, 0, 0, 0, 0⟩
/-- The fields: 0 X, 1 Y, 2 N, 3 NN, 4 NNN. -/
def digK (k : Nat) : Nat := if k = 4 then 3 else if k = 3 then 2 else 1
def belK (k : Nat) : Nat := if k = 0 then 8 else if k = 1 then 4 else 0
def mskK (k : Nat) : Nat := if k = 0 then 3840 else if k = 1 then 240 else if k = 2 then 15 else if k = 3 then 255 else 4095
def ledK (k : Nat) : List UInt8 := if k = 0 then [118] else if k = 1 then [118] else []
def putK (k : Nat) (o : Od) (v : Nat) : Od := if k = 0 then { o with x := v % 256 } else if k = 1 then { o with y := v % 256 } else if k = 2 then { o with n := v % 256 } else if k = 3 then { o with b := v % 256 } else { o with a := v }
def rowT : List (Nat × Nat × List UInt8 × List Nat) := [
  (2, 224, [99, 108, 101, 97, 114], []),
  (3, 238, [114, 101, 116, 117, 114, 110], []),
  (1, 0, [109, 97, 99, 104, 105, 110, 101], [4]),
  (4, 4096, [106, 117, 109, 112], [4]),
  (5, 8192, [99, 97, 108, 108], [4]),
  (6, 12288, [115, 107, 105, 112, 45, 105, 115], [0, 3]),
  (7, 16384, [115, 107, 105, 112, 45, 110, 111, 116], [0, 3]),
  (8, 20480, [115, 107, 105, 112, 45, 115, 97, 109, 101], [0, 1]),
  (9, 24576, [115, 101, 116], [0, 3]),
  (10, 28672, [97, 100, 100], [0, 3]),
  (11, 32768, [109, 111, 118, 101], [0, 1]),
  (12, 32769, [111, 114], [0, 1]),
  (13, 32770, [97, 110, 100], [0, 1]),
  (14, 32772, [112, 108, 117, 115], [0, 1]),
  (15, 32773, [109, 105, 110, 117, 115], [0, 1]),
  (16, 36864, [115, 107, 105, 112, 45, 111, 116, 104, 101, 114], [0, 1]),
  (17, 40960, [112, 111, 105, 110, 116], [4]),
  (18, 45056, [106, 117, 109, 112, 45, 98, 121], [4]),
  (19, 49152, [114, 97, 110, 100, 111, 109], [0, 3]),
  (20, 53248, [100, 114, 97, 119], [0, 1, 2]),
  (21, 57502, [115, 107, 105, 112, 45, 100, 111, 119, 110], [0]),
  (22, 57505, [115, 107, 105, 112, 45, 117, 112], [0]),
  (23, 61447, [116, 105, 109, 101, 114], [0]),
  (24, 61450, [107, 101, 121], [0]),
  (25, 61461, [100, 101, 108, 97, 121], [0]),
  (26, 61464, [115, 111, 117, 110, 100], [0]),
  (27, 61470, [111, 110], [0]),
  (28, 61481, [100, 105, 103, 105, 116], [0]),
  (29, 61491, [116, 104, 114, 101, 101], [0]),
  (30, 61525, [115, 116, 111, 114, 101], [0]),
  (31, 61541, [102, 105, 108, 108], [0])]
def opR (i : Nat) : Nat := (rowT.getD i (0, 0, [], [])).1
def wdR (i : Nat) : Nat := (rowT.getD i (0, 0, [], [])).2.1
def nmR (i : Nat) : List UInt8 := (rowT.getD i (0, 0, [], [])).2.2.1
def fsR (i : Nat) : List Nat := (rowT.getD i (0, 0, [], [])).2.2.2

/-- The first number below n of which it is so. -/
def fstI (p : Nat → Bool) (n : Nat) : Option Nat := (List.range n).find? p
theorem fstI_some {p : Nat → Bool} {n i : Nat} (hi : i < n) (h : p i = true) (hj : ∀ j, j < i → p j = false) : fstI p n = some i := by
  unfold fstI
  rw [List.find?_range_eq_some]
  exact ⟨h, List.mem_range.2 hi, fun j hji => by rw [hj j hji]; rfl⟩
theorem fstI_none {p : Nat → Bool} {n : Nat} (hj : ∀ j, j < n → p j = false) : fstI p n = none := by
  unfold fstI
  rw [List.find?_eq_none]
  intro j hm
  rw [hj j (List.mem_range.1 hm)]
  simp
theorem fstI_of {p : Nat → Bool} {n i : Nat} (h : fstI p n = some i) : i < n ∧ p i = true ∧ ∀ j, j < i → p j = false := by
  unfold fstI at h
  rw [List.find?_range_eq_some] at h
  exact ⟨List.mem_range.1 h.2.1, h.1, fun j hj => by have := h.2.2 j hj; simpa using this⟩
def clrF (w : Nat) (fs : List Nat) : Nat := fs.foldl (fun w k => w &&& (65535 - mskK k)) w
def takR (i w : Nat) : Bool := clrF w (fsR i) == wdR i
def fldV (k w : Nat) : Nat := (w &&& mskK k) >>> belK k
def ordF (o : Od) (w : Nat) (fs : List Nat) : Od := fs.foldl (fun o k => putK k o (fldV k w)) o
def ordR (i w : Nat) : Od := ordF ⟨opR i, 0, 0, 0, 0, 0⟩ w (fsR i)
/-- The row of a word, and its order. -/
def decR (w : Nat) : Option Nat := fstI (takR · w) 31
def decO (w : Nat) : Od := match decR w with | some i => ordR i w | none => od0
def decB (w : Nat) : Bool := (decR w).isSome
theorem fs_pats : ∀ i, i < 31 → fsR i = [] ∨ fsR i = [0] ∨ fsR i = [4] ∨ fsR i = [0, 1] ∨ fsR i = [0, 3] ∨ fsR i = [0, 1, 2] := by decide +kernel
theorem op_row : ∀ i, i < 31 → ∀ j, j < 31 → opR j = opR i → j = i := by decide +kernel
theorem op_bnd : ∀ i, i < 31 → 1 ≤ opR i ∧ opR i ≤ 31 := by decide +kernel
theorem wd_bnd : ∀ i, i < 31 → wdR i < 65536 := by decide +kernel
/-- Of all words the same. -/
theorem all_words (p : Nat → Bool) (h : ((List.range 256).all fun a => (List.range 256).all fun b => p (a * 256 + b)) = true) (w : Nat) (hw : w < 65536) : p w = true := by
  have h1 := List.all_eq_true.1 h (w / 256) (List.mem_range.2 (by omega))
  have h2 := List.all_eq_true.1 h1 (w % 256) (List.mem_range.2 (by omega))
  rwa [show w / 256 * 256 + w % 256 = w by omega] at h2
theorem ordR_op (i w : Nat) (hi : i < 31) : (ordR i w).op = opR i := by
  unfold ordR
  rcases fs_pats i hi with e | e | e | e | e | e <;> rw [e] <;> rfl
theorem decO_some {w i : Nat} (h : decR w = some i) : decO w = ordR i w := by unfold decO; rw [h]
theorem dec_op (w : Nat) (h : decB w = true) : 1 ≤ (decO w).op ∧ (decO w).op ≤ 31 := by
  obtain ⟨i, hi⟩ := Option.isSome_iff_exists.1 h
  obtain ⟨h1, h2, _⟩ := fstI_of hi
  rw [decO_some hi, ordR_op i w h1]
  exact op_bnd i h1

/-- Values fit in their digits. -/
theorem fldV_lt (k w : Nat) (hk : k < 5) : fldV k w < 16 ^ digK k := by
  match k, hk with
  | 0, _ => exact Nat.lt_of_le_of_lt (show (w &&& 3840) >>> 8 ≤ 15 by rw [Nat.shiftRight_eq_div_pow]; have := @Nat.and_le_right w 3840; omega) (by decide)
  | 1, _ => exact Nat.lt_of_le_of_lt (show (w &&& 240) >>> 4 ≤ 15 by rw [Nat.shiftRight_eq_div_pow]; have := @Nat.and_le_right w 240; omega) (by decide)
  | 2, _ => exact Nat.lt_of_le_of_lt (show (w &&& 15) >>> 0 ≤ 15 from @Nat.and_le_right w 15) (by decide)
  | 3, _ => exact Nat.lt_of_le_of_lt (show (w &&& 255) >>> 0 ≤ 255 from @Nat.and_le_right w 255) (by decide)
  | 4, _ => exact Nat.lt_of_le_of_lt (show (w &&& 4095) >>> 0 ≤ 4095 from @Nat.and_le_right w 4095) (by decide)
end Go.Proofs.YteipjkjpeookaaaGreat

namespace Go.Proofs.YteipjkjpeookaaaGreat
open Go
set_option linter.unusedVariables false
set_option maxRecDepth 20000

/-- The bit of a dot of a byte. -/
def mk (k : Nat) : UInt8 := UInt8.ofNat (128 >>> k)
/-- Whether a dot of a page is on. -/
def bitP (p : List UInt8) (n : Nat) : Bool := p.getD (n / 8) 0 &&& mk (n % 8) != 0
/-- A dot of a page is turned. -/
def flipP (p : List UInt8) (n : Nat) : List UInt8 := p.set (n / 8) (p.getD (n / 8) 0 ^^^ mk (n % 8))
theorem flip_len (p : List UInt8) (n : Nat) : (flipP p n).length = p.length := by simp [flipP]
/-- The place of the t-th dot of some rows laid at (x, y), if it is on and has one. -/
def plc (x y : Nat) (rows : List UInt8) (t : Nat) : Option Nat :=
  if rows.getD (t / 8) 0 &&& mk (t % 8) = 0 ∨ 64 ≤ x % 64 + t % 8 ∨ 32 ≤ y % 32 + t / 8 then none else some (64 * (y % 32 + t / 8) + (x % 64 + t % 8))
/-- One dot drawn. -/
def stepD (x y : Nat) (rows : List UInt8) (s : List UInt8 × Bool) (t : Nat) : List UInt8 × Bool :=
  match plc x y rows t with
  | none => s
  | some n => (flipP s.1 n, s.2 || bitP s.1 n)
/-- The first k dots drawn. -/
def drawS (x y : Nat) (rows : List UInt8) (p : List UInt8) : Nat → List UInt8 × Bool
  | 0 => (p, false)
  | k + 1 => stepD x y rows (drawS x y rows p k) k
theorem draw_len (x y : Nat) (rows p : List UInt8) (k : Nat) : (drawS x y rows p k).1.length = p.length := by
  induction k with
  | zero => rfl
  | succ k ih =>
    show (stepD x y rows (drawS x y rows p k) k).1.length = _
    unfold stepD
    split
    · exact ih
    · rw [flip_len, ih]
end Go.Proofs.YteipjkjpeookaaaGreat

namespace Go.Proofs.YteipjkjpeookaaaGreat
open Go
set_option linter.unusedVariables false
set_option maxHeartbeats 1000000
set_option maxRecDepth 20000

/-- A machine. -/
structure Gm where
  v : List UInt8
  i : Nat
  pc : Nat
  st : List Nat
  de : UInt8
  so : UInt8
  pg : List UInt8
  me : List UInt8
deriving DecidableEq
/-- A font. -/
structure Fo where
  pl : List Nat
  fr : Nat
  by_ : List UInt8
/-- A feed. -/
structure Fd where
  rn : UInt8
  ks : Nat
  ky : Int
def gz : Gm := ⟨List.replicate 16 0, 0, 0, [], 0, 0, [], []⟩
/-- It may be. -/
def Gm.may (g : Gm) : Bool := g.pg.length == 256 && (g.me.length == 3232 && decide (g.st.length ≤ 12))
/-- What a machine in memory is anyway. -/
structure Gm.Ok (g : Gm) : Prop where
  v : g.v.length = 16
  i : g.i < 65536
  pc : g.pc < 65536
  st : ∀ s ∈ g.st, s < 65536
theorem gz_ok : gz.Ok := ⟨rfl, by decide, by decide, by simp [gz]⟩
def newG (p : List UInt8) : Gm := ⟨List.replicate 16 0, 0, 512, [], 0, 0, List.replicate 256 0, p ++ List.replicate (3232 - p.length) 0⟩
def inM (a : Nat) : Bool := decide (512 ≤ a) && decide (a < 3744)
/-- The word at PC. -/
def wordG (g : Gm) : Nat := (g.me.getD (g.pc - 512) 0).toNat * 256 + (g.me.getD (g.pc + 1 - 512) 0).toNat
/-- The order at PC and what is said of it. -/
def nextG (g : Gm) : Od × Nat :=
  if g.may then
    if inM g.pc && inM (g.pc + 1) then
      if decB (wordG g) then (decO (wordG g), if (decO (wordG g)).op = 1 then 3 else 1) else (od0, 4)
    else (od0, 7)
  else (od0, 0)
/-- The byte at an address. -/
def atG (g : Gm) (f : Fo) (a : Nat) : Option UInt8 :=
  if inM a then some (g.me.getD (a - 512) 0) else if f.fr ≤ a ∧ a - f.fr < f.by_.length then some (f.by_.getD (a - f.fr) 0) else none
/-- So many bytes from an address on. -/
def readG (g : Gm) (f : Fo) (a : Nat) : Nat → Option (List UInt8)
  | 0 => some []
  | n + 1 => match readG g f a n with
    | none => none
    | some l => match atG g f (a + n) with
      | none => none
      | some b => some (l ++ [b])
/-- The first j bytes of l, laid from k on. -/
def wr (m : List UInt8) (k : Nat) (l : List UInt8) : Nat → List UInt8
  | 0 => m
  | j + 1 => (wr m k l j).set (k + j) (l.getD j 0)
def fitG (a n : Nat) : Bool := decide (512 ≤ a) && decide (a + n ≤ 3744)
def skipG (g : Gm) (b : Bool) : Gm := if b then { g with pc := (g.pc + 2) % 65536 } else g
def oneG (b : Bool) : UInt8 := if b then 1 else 0
def setG (g : Gm) (x : Nat) (b : UInt8) : Gm := { g with v := g.v.set x b }
/-- What an order does; PC is behind it. -/
def doG (g : Gm) (o : Od) (f : Fo) (d : Fd) : Gm × Nat :=
  let x := g.v.getD o.x 0
  let y := g.v.getD o.y 0
  match o.op with
  | 2 => ({ g with pg := List.replicate 256 0 }, 1)
  | 3 => if g.st.length = 0 then (g, 6) else ({ g with pc := g.st.getD (g.st.length - 1) 0, st := g.st.take (g.st.length - 1) }, 1)
  | 4 => ({ g with pc := o.a }, 1)
  | 5 => if g.st.length = 12 then (g, 5) else ({ g with st := g.st ++ [g.pc], pc := o.a }, 1)
  | 6 => (skipG g (x.toNat == o.b), 1)
  | 7 => (skipG g (x.toNat != o.b), 1)
  | 8 => (skipG g (x == y), 1)
  | 9 => (setG g o.x (UInt8.ofNat o.b), 1)
  | 10 => (setG g o.x (x + UInt8.ofNat o.b), 1)
  | 11 => (setG g o.x y, 1)
  | 12 => (setG (setG g o.x (x ||| y)) 15 0, 1)
  | 13 => (setG (setG g o.x (x &&& y)) 15 0, 1)
  | 14 => (setG (setG g o.x (x + y)) 15 (oneG (decide (255 < x.toNat + y.toNat))), 1)
  | 15 => (setG (setG g o.x (x - y)) 15 (oneG (decide (y.toNat ≤ x.toNat))), 1)
  | 16 => (skipG g (x != y), 1)
  | 17 => ({ g with i := o.a }, 1)
  | 18 => ({ g with pc := (o.a + (g.v.getD 0 0).toNat) % 65536 }, 1)
  | 19 => (setG g o.x (d.rn &&& UInt8.ofNat o.b), 1)
  | 20 => match readG g f g.i o.n with
    | none => (g, 7)
    | some l => (setG { g with pg := (drawS (x.toNat % 64) (y.toNat % 32) l g.pg (8 * l.length)).1 } 15 (oneG (drawS (x.toNat % 64) (y.toNat % 32) l g.pg (8 * l.length)).2), 1)
  | 21 => (skipG g (d.ks >>> (x.toNat % 16) % 2 == 1), 1)
  | 22 => (skipG g (d.ks >>> (x.toNat % 16) % 2 == 0), 1)
  | 23 => (setG g o.x g.de, 1)
  | 24 => if d.ky < 0 then (g, 2) else (setG g o.x (UInt8.ofNat d.ky.toNat), 1)
  | 25 => ({ g with de := x }, 1)
  | 26 => ({ g with so := x }, 1)
  | 27 => ({ g with i := (g.i + x.toNat) % 65536 }, 1)
  | 28 => ({ g with i := f.pl.getD (x.toNat % 16) 0 }, 1)
  | 29 => if fitG g.i 3 then ({ g with me := wr g.me (g.i - 512) [x / 100, x / 10 % 10, x % 10] 3 }, 1) else (g, 7)
  | 30 => if fitG g.i (o.x + 1) then ({ g with me := wr g.me (g.i - 512) g.v (o.x + 1), i := (g.i + (o.x + 1)) % 65536 }, 1) else (g, 7)
  | 31 => match readG g f g.i (o.x + 1) with
    | none => (g, 7)
    | some l => ({ g with v := wr g.v 0 l (o.x + 1), i := (g.i + (o.x + 1)) % 65536 }, 1)
  | _ => (g, 1)
def fontG (f : Fo) : Bool := decide (f.fr + f.by_.length ≤ 65536)
def Gm.on (g : Gm) : Gm := { g with pc := (g.pc + 2) % 65536 }
/-- One order: the machine, what became of it, the error. -/
def stepG (g : Gm) (f : Fo) (d : Fd) : Gm × Nat × Nat :=
  if g.may then
    if fontG f && decide (d.ky ≤ 15) then
      if (nextG g).2 = 1 then
        if (doG g.on (nextG g).1 f d).2 = 1 then ((doG g.on (nextG g).1 f d).1, 1, 0) else (g, (doG g.on (nextG g).1 f d).2, 0)
      else (g, (nextG g).2, 0)
    else (gz, 0, 1)
  else (gz, 0, 180)
def tickG (g : Gm) : Gm := if g.may then { g with de := if g.de = 0 then 0 else g.de - 1, so := if g.so = 0 then 0 else g.so - 1 } else gz

theorem wr_len (m : List UInt8) (k : Nat) (l : List UInt8) (j : Nat) : (wr m k l j).length = m.length := by
  induction j with
  | zero => rfl
  | succ j ih => simp [wr, ih]
theorem wr_out (m : List UInt8) (k : Nat) (l : List UInt8) (j a : Nat) (h : a < k ∨ k + j ≤ a) : (wr m k l j).getD a 0 = m.getD a 0 := by
  induction j with
  | zero => rfl
  | succ j ih =>
    have h1 := ih (by omega)
    simp only [wr, List.getD_eq_getElem?_getD] at h1 ⊢
    rw [List.getElem?_set_ne (by omega)]
    exact h1
theorem wr_in (m : List UInt8) (k : Nat) (l : List UInt8) (j a : Nat) (h : a < j) (hk : k + a < m.length) : (wr m k l j).getD (k + a) 0 = l.getD a 0 := by
  induction j with
  | zero => omega
  | succ j ih =>
    simp only [wr, List.getD_eq_getElem?_getD]
    rcases Nat.lt_or_ge a j with c | c
    · have h1 := ih c
      simp only [List.getD_eq_getElem?_getD] at h1
      rw [List.getElem?_set_ne (by omega)]
      exact h1
    · obtain rfl : a = j := by omega
      rw [List.getElem?_set_self (by rw [wr_len]; exact hk)]
      simp
/-- All of it laid at once. -/
theorem wr_all (m : List UInt8) (k : Nat) (l : List UInt8) (j : Nat) (hj : j ≤ l.length) (hk : k + j ≤ m.length) : wr m k l j = m.take k ++ (l.take j ++ m.drop (k + j)) := by
  refine List.ext_getElem (by simp [wr_len]; omega) fun a h1 h2 => ?_
  have hm : a < m.length := by rw [wr_len] at h1; exact h1
  have e1 : (wr m k l j)[a] = (wr m k l j).getD a 0 := by simp [List.getD_eq_getElem?_getD, h1]
  rw [e1]
  rcases Nat.lt_or_ge a k with c | c
  · rw [wr_out _ _ _ _ _ (.inl c), List.getElem_append_left (by simp; omega)]
    simp [List.getD_eq_getElem?_getD, hm]
  · rw [List.getElem_append_right (by simp; omega)]
    rcases Nat.lt_or_ge a (k + j) with c2 | c2
    · obtain ⟨b, rfl⟩ : ∃ b, a = k + b := ⟨a - k, by omega⟩
      rw [wr_in _ _ _ _ _ (by omega) hm, List.getElem_append_left (by simp; omega)]
      have hb : b < l.length := by omega
      have e2 : k + b - (List.take k m).length = b := by simp; omega
      simp only [e2, List.getElem_take, List.getD_eq_getElem?_getD, List.getElem?_eq_getElem hb, Option.getD_some]
    · rw [wr_out _ _ _ _ _ (.inr c2), List.getElem_append_right (by simp; omega)]
      have e2 : k + j + (a - (List.take k m).length - (List.take j l).length) = a := by simp; omega
      simp only [List.getElem_drop, e2, List.getD_eq_getElem?_getD, List.getElem?_eq_getElem hm, Option.getD_some]
theorem read_length {g : Gm} {f : Fo} {a : Nat} : ∀ {n : Nat} {l : List UInt8}, readG g f a n = some l → l.length = n
  | 0, l, h => by simp [readG] at h; subst h; rfl
  | n + 1, l, h => by
    simp only [readG] at h
    split at h
    · cases h
    · rename_i l' hl
      split at h
      · cases h
      · cases h
        simp [read_length hl]
end Go.Proofs.YteipjkjpeookaaaGreat
