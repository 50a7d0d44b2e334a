/- A source's text read line by line, by plain mathematics. -/
import Derived.Test.YtmaedkbmjbggpaaDoorJIl
namespace Go.Proofs.YtmaedkbmjbggpaaDoor
open Go Go.RowKit
set_option linter.unusedVariables false
set_option maxHeartbeats 1000000
set_option maxRecDepth 20000

/-- An item itself. -/
structure Pu where
  k : Int
  n : ByteArray
  a : Int
  l : ByteArray
  p : Int
  b : List UInt8
def Pu.ri (q : Pu) (sp : Option Addr) (cap : Nat) : Ri := ⟨q.k, q.n, q.a, q.l, q.p, sp, q.b.length, cap⟩
def pu (x : Itm) : Pu := ⟨x.1.k, x.1.n, x.1.a, x.1.l, x.1.p, x.2⟩
def mayP (q : Pu) : Bool := mayI (q.ri none 0)
def lineP (q : Pu) : ByteArray := lineI (q.ri none 0) q.b
def E0 : ByteArray := ⟨#[]⟩
theorem mayI_ri (q : Pu) (sp : Option Addr) (cap : Nat) : mayI (q.ri sp cap) = mayP q := rfl
theorem mayI_pu (x : Itm) (h : x.2.length = x.1.m) : mayI x.1 = mayP (pu x) := by
  obtain ⟨⟨k, n, a, l, p, sp, m, cap⟩, b⟩ := x
  simp only at h
  subst h
  rfl
theorem lineI_pu (x : Itm) (h : x.2.length = x.1.m) : lineI x.1 x.2 = lineP (pu x) := by
  obtain ⟨⟨k, n, a, l, p, sp, m, cap⟩, b⟩ := x
  simp only at h
  subst h
  rfl

/-- What two digits say. -/
def byteO (x : ByteArray) : Option UInt8 := if x.size = 2 ∧ numE x = 0 then some (UInt8.ofNat (numV x).toNat) else none
def dataO : List ByteArray → Option (List UInt8)
  | [] => some []
  | x :: r => match byteO x with
    | none => none
    | some b => match dataO r with
      | none => none
      | some l => some (b :: l)
def wTo : ByteArray := ⟨#[116, 111]⟩
def wHigh : ByteArray := ⟨#[104, 105, 103, 104]⟩
def wLow : ByteArray := ⟨#[108, 111, 119]⟩
def wData : ByteArray := ⟨#[100, 97, 116, 97]⟩
def wAt : ByteArray := ⟨#[97, 116]⟩
def wAddr : ByteArray := ⟨#[97, 100, 100, 114, 101, 115, 115]⟩
def partO (x : ByteArray) : Int := if x = wTo then 1 else if x = wHigh then 2 else if x = wLow then 3 else 0
/-- An instruction's words behind the first one. -/
def ordO (x0 : ByteArray) : List ByteArray → Option Pu
  | [] => if parseE x0 = 0 then some ⟨2, x0, parseA x0, E0, 0, []⟩ else none
  | [x1] => if parseE (x0 ++ ⟨#[32]⟩ ++ x1) = 0 then some ⟨2, x0, parseA (x0 ++ ⟨#[32]⟩ ++ x1), E0, 0, []⟩ else none
  | [x1, x2] => if partO x1 ≠ 0 ∧ mayP ⟨2, x0, 0, x2, partO x1, []⟩ = true then some ⟨2, x0, 0, x2, partO x1, []⟩ else none
  | _ => none
def dataP (r : List ByteArray) : Option Pu := match dataO r with
  | none => none
  | some l => if 1 ≤ l.length ∧ l.length ≤ 256 then some ⟨3, E0, 0, E0, 0, l⟩ else none
def atP : List ByteArray → Option Pu
  | [x] => if x.size = 4 ∧ numE x = 0 then some ⟨4, E0, numV x, E0, 0, []⟩ else none
  | _ => none
def addrP : List ByteArray → Option Pu
  | [x] => if isNm x = true then some ⟨5, E0, 0, x, 0, []⟩ else none
  | _ => none
def labP (x0 : ByteArray) (r : List ByteArray) : Option Pu := if r = [] ∧ labOk x0 = true then some ⟨1, x0.extract 0 (x0.size - 1), 0, E0, 0, []⟩ else none
/-- The item of a line's words. -/
def itemO (front : Bool) : List ByteArray → Option Pu
  | [] => none
  | x0 :: r => if front = true then labP x0 r else if x0 = wData then dataP r else if x0 = wAt then atP r else if x0 = wAddr then addrP r else ordO x0 r
theorem itemO_cons (front : Bool) (x0 : ByteArray) (r : List ByteArray) : itemO front (x0 :: r) = if front = true then labP x0 r else if x0 = wData then dataP r else if x0 = wAt then atP r else if x0 = wAddr then addrP r else ordO x0 r := rfl
theorem ordO_0 (x0 : ByteArray) : ordO x0 [] = if parseE x0 = 0 then some ⟨2, x0, parseA x0, E0, 0, []⟩ else none := rfl
theorem ordO_1 (x0 x1 : ByteArray) : ordO x0 [x1] = if parseE (x0 ++ ⟨#[32]⟩ ++ x1) = 0 then some ⟨2, x0, parseA (x0 ++ ⟨#[32]⟩ ++ x1), E0, 0, []⟩ else none := rfl
theorem ordO_2 (x0 x1 x2 : ByteArray) : ordO x0 [x1, x2] = if partO x1 ≠ 0 ∧ mayP ⟨2, x0, 0, x2, partO x1, []⟩ = true then some ⟨2, x0, 0, x2, partO x1, []⟩ else none := rfl
theorem ordO_3 (x0 x1 x2 x3 : ByteArray) (r : List ByteArray) : ordO x0 (x1 :: x2 :: x3 :: r) = none := rfl
theorem atP_1 (x : ByteArray) : atP [x] = if x.size = 4 ∧ numE x = 0 then some ⟨4, E0, numV x, E0, 0, []⟩ else none := rfl
theorem addrP_1 (x : ByteArray) : addrP [x] = if isNm x = true then some ⟨5, E0, 0, x, 0, []⟩ else none := rfl
def mkB (l : List UInt8) : ByteArray := ⟨l.toArray⟩
theorem strL_mkB (l : List UInt8) : strL (mkB l) = l := by simp [strL, mkB]
theorem mkB_strL (s : ByteArray) : mkB (strL s) = s := strL_mk s
def wordsA (l : List UInt8) : List ByteArray := (wordsG l []).map mkB
theorem wordsA_of {l : List UInt8} {ws : List ByteArray} (h : ws.map strL = wordsG l []) : ws = wordsA l := by
  unfold wordsA
  rw [← h, List.map_map]
  conv => lhs; rw [← List.map_id ws]
  apply List.map_congr_left
  intro x _
  exact (mkB_strL x).symm
def frontL : List UInt8 → Bool
  | [] => true
  | c :: _ => decide (c ≠ 32 ∧ c ≠ 9)
/-- What a line says. -/
def lineO (l : List UInt8) : Option (List Pu) := if wordsA l = [] then some [] else match itemO (frontL l) (wordsA l) with
  | none => none
  | some q => some [q]
def linesG : List UInt8 → List UInt8 → List (List UInt8)
  | [], cur => pushW cur
  | c :: r, cur => if c = 10 then cur :: linesG r [] else linesG r (cur ++ [c])
/-- The first line that is none. -/
def badO : List (List UInt8) → Nat → Option Nat
  | [], _ => none
  | l :: r, i => match lineO l with
    | none => some i
    | some _ => badO r (i + 1)
def itemsO (ls : List (List UInt8)) : List Pu := ls.flatMap fun l => (lineO l).getD []
def srcLs (t : ByteArray) : List (List UInt8) := linesG (strL t) []
def srcE (t : ByteArray) : Int := if 65536 < t.size then 2 else match badO (srcLs t) 1 with
  | some _ => 131
  | none => if 4096 < (itemsO (srcLs t)).length then 2 else 0
def srcN (t : ByteArray) : Int := if 65536 < t.size then 0 else match badO (srcLs t) 1 with
  | some i => (i : Int)
  | none => 0
def srcL (t : ByteArray) : List Pu := if srcE t = 0 then itemsO (srcLs t) else []

theorem badO_app (a b : List (List UInt8)) : ∀ i, badO a i = none → badO (a ++ b) i = badO b (i + a.length) := by
  induction a with
  | nil => intro i _; rfl
  | cons l r ih =>
    intro i h
    unfold badO at h
    rcases e : lineO l with _ | x
    · rw [e] at h; cases h
    · rw [e] at h
      show badO (l :: (r ++ b)) i = _
      conv => lhs; unfold badO
      rw [e]
      show badO (r ++ b) (i + 1) = _
      rw [ih (i + 1) h, List.length_cons, show i + 1 + r.length = i + (r.length + 1) by omega]
theorem badO_one (l : List UInt8) (b : List (List UInt8)) (i : Nat) : badO (l :: b) i = match lineO l with
    | none => some i
    | some _ => badO b (i + 1) := rfl
theorem badO_snoc {a : List (List UInt8)} {l : List UInt8} {x : List Pu} {i : Nat} (h : badO a i = none) (hl : lineO l = some x) : badO (a ++ [l]) i = none := by
  rw [badO_app a [l] i h, badO_one, hl]
  rfl
theorem itemsO_app (a b : List (List UInt8)) : itemsO (a ++ b) = itemsO a ++ itemsO b := by simp [itemsO]
theorem itemsO_one (l : List UInt8) : itemsO [l] = (lineO l).getD [] := by simp [itemsO]

/-- Where the reading of lines has come to: the lines done, what is left, the line that is begun. -/
structure Lat (t : List UInt8) (ls : List (List UInt8)) (r cur : List UInt8) : Prop where
  eq : linesG t [] = ls ++ linesG r cur
  good : badO ls 1 = none
theorem Lat.start (t : List UInt8) : Lat t [] t [] := ⟨by simp, rfl⟩
theorem Lat.more {t : List UInt8} {ls : List (List UInt8)} {r cur : List UInt8} {c : UInt8} (h : Lat t ls (c :: r) cur) (hc : c ≠ 10) : Lat t ls r (cur ++ [c]) := by
  refine ⟨?_, h.good⟩
  rw [h.eq]
  conv => lhs; unfold linesG
  rw [if_neg hc]
theorem Lat.line {t : List UInt8} {ls : List (List UInt8)} {r cur : List UInt8} {x : List Pu} (h : Lat t ls (10 :: r) cur) (hl : lineO cur = some x) : Lat t (ls ++ [cur]) r [] := by
  refine ⟨?_, badO_snoc h.good hl⟩
  rw [h.eq]
  conv => lhs; unfold linesG
  rw [if_pos rfl, List.append_assoc]
  rfl
theorem Lat.last {t : List UInt8} {ls : List (List UInt8)} {cur : List UInt8} {x : List Pu} (h : Lat t ls [] cur) (h0 : cur ≠ []) (hl : lineO cur = some x) : Lat t (ls ++ [cur]) [] [] := by
  refine ⟨?_, badO_snoc h.good hl⟩
  rw [h.eq]
  show ls ++ pushW cur = ls ++ [cur] ++ pushW []
  unfold pushW
  rw [if_neg h0, if_pos rfl, List.append_nil]
theorem Lat.bad {t : List UInt8} {ls : List (List UInt8)} {r cur : List UInt8} (h : Lat t ls (10 :: r) cur) (hl : lineO cur = none) : badO (linesG t []) 1 = some (ls.length + 1) := by
  rw [h.eq]
  conv => lhs; unfold linesG
  rw [if_pos rfl, badO_app _ _ _ h.good, badO_one, hl, Nat.add_comm]
theorem Lat.badLast {t : List UInt8} {ls : List (List UInt8)} {cur : List UInt8} (h : Lat t ls [] cur) (h0 : cur ≠ []) (hl : lineO cur = none) : badO (linesG t []) 1 = some (ls.length + 1) := by
  rw [h.eq]
  show badO (ls ++ pushW cur) 1 = _
  unfold pushW
  rw [if_neg h0, badO_app _ _ _ h.good, badO_one, hl, Nat.add_comm]
theorem Lat.done {t : List UInt8} {ls : List (List UInt8)} (h : Lat t ls [] []) : linesG t [] = ls ∧ badO (linesG t []) 1 = none := by
  have e : linesG t [] = ls := by
    rw [h.eq]
    show ls ++ pushW [] = ls
    unfold pushW
    rw [if_pos rfl, List.append_nil]
  exact ⟨e, by rw [e]; exact h.good⟩
theorem src_long {t : ByteArray} (h : 65536 < t.size) : srcE t = 2 ∧ srcN t = 0 ∧ srcL t = [] := by
  have e : srcE t = 2 := by unfold srcE; rw [if_pos h]
  exact ⟨e, by unfold srcN; rw [if_pos h], by unfold srcL; rw [e]; rfl⟩
theorem src_bad {t : ByteArray} {i : Nat} (h : ¬ 65536 < t.size) (hb : badO (linesG (strL t) []) 1 = some i) : srcE t = 131 ∧ srcN t = (i : Int) ∧ srcL t = [] := by
  have e : srcE t = 131 := by unfold srcE srcLs; rw [if_neg h, hb]
  exact ⟨e, by unfold srcN srcLs; rw [if_neg h, hb], by unfold srcL; rw [e]; rfl⟩
theorem src_done {t : ByteArray} {ls : List (List UInt8)} (h : ¬ 65536 < t.size) (hL : Lat (strL t) ls [] []) : srcN t = 0 ∧ (4096 < (itemsO ls).length → srcE t = 2 ∧ srcL t = []) ∧ (¬ 4096 < (itemsO ls).length → srcE t = 0 ∧ srcL t = itemsO ls) := by
  obtain ⟨e, hb⟩ := hL.done
  refine ⟨by unfold srcN srcLs; rw [if_neg h, hb], fun h4 => ?_, fun h4 => ?_⟩
  · have e2 : srcE t = 2 := by unfold srcE srcLs; rw [if_neg h, hb, e]; exact if_pos h4
    exact ⟨e2, by unfold srcL; rw [e2]; rfl⟩
  · have e2 : srcE t = 0 := by unfold srcE srcLs; rw [if_neg h, hb, e]; exact if_neg h4
    exact ⟨e2, by unfold srcL srcLs; rw [e2, if_pos rfl, e]⟩
end Go.Proofs.YtmaedkbmjbggpaaDoor
