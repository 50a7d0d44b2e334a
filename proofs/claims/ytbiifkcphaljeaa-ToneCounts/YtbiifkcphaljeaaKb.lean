/- Words with one blank between each two, and lines. A record as a line, a trace as a text, and back. -/
import Derived.Test.YtbiifkcphaljeaaText
namespace Go.Proofs.Ytbiifkcphaljeaa
open Go Go.RowKit
set_option linter.unusedVariables false
set_option maxHeartbeats 400000

def joinT : List (List UInt8) → List UInt8
  | [] => []
  | w :: r => 32 :: (w ++ joinT r)
theorem joinT_app (a b : List (List UInt8)) : joinT (a ++ b) = joinT a ++ joinT b := by
  induction a with
  | nil => rfl
  | cons w a ih => simp only [List.cons_append, joinT, ih, List.append_assoc]
def splitW : List UInt8 → List (List UInt8)
  | [] => [[]]
  | b :: l => if b = 32 then [] :: splitW l else match splitW l with | w :: r => (b :: w) :: r | [] => [[b]]
theorem splitW_cons (b : UInt8) (l : List UInt8) : splitW (b :: l) = if b = 32 then [] :: splitW l else match splitW l with | w :: r => (b :: w) :: r | [] => [[b]] := rfl
theorem splitW_ne (l : List UInt8) : splitW l ≠ [] := by
  cases l with
  | nil => simp [splitW]
  | cons b l =>
    unfold splitW
    split
    · simp
    · split <;> simp
theorem splitW_word (w : List UInt8) : ∀ l, (∀ b ∈ w, b ≠ 32) → (l = [] ∨ ∃ r, l = 32 :: r) → splitW (w ++ l) = w :: (match l with | [] => [] | _ :: r => splitW r) := by
  induction w with
  | nil =>
    intro l _ hl
    rcases hl with rfl | ⟨r, rfl⟩
    · rfl
    · simp [splitW]
  | cons b w ih =>
    intro l hw hl
    rw [List.cons_append, splitW_cons, if_neg (hw b (by simp)), ih l (fun c hc => hw c (by simp [hc])) hl]
def noBlank (ws : List (List UInt8)) : Prop := ∀ w ∈ ws, ∀ b ∈ w, b ≠ 32
theorem split_join (r : List (List UInt8)) : ∀ w, (∀ b ∈ w, b ≠ 32) → noBlank r → splitW (w ++ joinT r) = w :: r := by
  induction r with
  | nil => intro w hw _; exact splitW_word w [] hw (.inl rfl)
  | cons v r ih =>
    intro w hw hr
    rw [splitW_word w (joinT (v :: r)) hw (.inr ⟨_, rfl⟩)]
    show w :: splitW (v ++ joinT r) = _
    rw [ih v (hr v (by simp)) (fun x hx => hr x (by simp [hx]))]
theorem join_split (l : List UInt8) : ∃ w r, splitW l = w :: r ∧ w ++ joinT r = l := by
  induction l with
  | nil => exact ⟨[], [], rfl, rfl⟩
  | cons b l ih =>
    obtain ⟨w, r, h1, h2⟩ := ih
    unfold splitW
    by_cases hb : b = 32
    · rw [if_pos hb]
      subst hb
      exact ⟨[], _, rfl, by rw [h1]; simp only [List.nil_append, joinT, h2]⟩
    · rw [if_neg hb, h1]
      exact ⟨b :: w, r, rfl, by rw [List.cons_append, h2]⟩
theorem hex_byte (D N : Nat) : ∀ b ∈ hexL D N, 48 ≤ b.toNat ∧ b.toNat ≤ 102 := by
  intro b hb
  obtain ⟨j, hj⟩ := List.getElem?_of_mem hb
  obtain ⟨hl, e⟩ := List.getElem?_eq_some_iff.1 hj
  have h1 := hexL_get D N j hl
  rw [e] at h1
  have h2 := hexAt_hi D N j
  have h3 : 48 ≤ hexAt D N j := by
    unfold hexAt hexC
    split <;> omega
  omega
theorem hex_word (D N : Nat) (w : List UInt8) (hw : ∃ b ∈ w, 102 < b.toNat) : hexL D N ≠ w := fun e => by
  obtain ⟨b, hb, h⟩ := hw
  rw [← e] at hb
  have := hex_byte D N b hb
  omega
/-- A byte of a word: no blank, no line feed. -/
def plainB (b : UInt8) : Prop := b ≠ 32 ∧ b ≠ 10
theorem plain_big (b : UInt8) (h : 48 ≤ b.toNat) : plainB b := by
  refine ⟨fun e => ?_, fun e => ?_⟩ <;> subst e <;> exact absurd h (by decide)
def plainW (ws : List (List UInt8)) : Prop := ∀ w ∈ ws, ∀ b ∈ w, plainB b
theorem plainW.app {a b : List (List UInt8)} (h : plainW a) (k : plainW b) : plainW (a ++ b) := fun w hw => by
  rcases List.mem_append.1 hw with h1 | h1
  · exact h w h1
  · exact k w h1
theorem plain_if (p : Prop) [Decidable p] (l : List (List UInt8)) (h : plainW l) : plainW (if p then l else []) := by
  split
  · exact h
  · intro w hw; simp at hw
theorem word_big (w : List UInt8) (h : ∀ b ∈ w, 48 ≤ b.toNat) : plainW [w] := fun v hv b hb => by
  have e := List.mem_singleton.1 hv
  subst e
  exact plain_big b (h b hb)
theorem joinT_if (p : Prop) [Decidable p] (l : List (List UInt8)) (n : Nat) (h : (joinT l).length ≤ n) : (joinT (if p then l else [])).length ≤ n := by
  split
  · exact h
  · simp [joinT]
/-- A text's lines, and what stands behind the last line feed. -/
def linesL : List UInt8 → List (List UInt8) × List UInt8
  | [] => ([], [])
  | b :: l => if b = 10 then ([] :: (linesL l).1, (linesL l).2) else match linesL l with | (w :: r, t) => ((b :: w) :: r, t) | ([], t) => ([], b :: t)
theorem linesL_cons (b : UInt8) (l : List UInt8) : linesL (b :: l) = if b = 10 then ([] :: (linesL l).1, (linesL l).2) else match linesL l with | (w :: r, t) => ((b :: w) :: r, t) | ([], t) => ([], b :: t) := rfl
theorem lines_word (w : List UInt8) : ∀ l, (∀ b ∈ w, b ≠ 10) → linesL (w ++ 10 :: l) = (w :: (linesL l).1, (linesL l).2) := by
  induction w with
  | nil => intro l _; rw [List.nil_append, linesL_cons, if_pos rfl]
  | cons b w ih =>
    intro l hw
    rw [List.cons_append, linesL_cons, if_neg (hw b (by simp)), ih l (fun c hc => hw c (by simp [hc]))]
def unlines : List (List UInt8) → List UInt8
  | [] => []
  | w :: r => w ++ 10 :: unlines r
theorem lines_un (l : List UInt8) : unlines (linesL l).1 ++ (linesL l).2 = l := by
  induction l with
  | nil => rfl
  | cons b l ih =>
    rw [linesL_cons]
    by_cases hb : b = 10
    · rw [if_pos hb]
      subst hb
      simp only [unlines, List.nil_append, List.cons_append, ih]
    · rw [if_neg hb]
      rcases hx : linesL l with ⟨ws, t⟩
      rw [hx] at ih
      cases ws with
      | nil => simp only [unlines, List.nil_append] at ih ⊢; rw [ih]
      | cons w r => simp only [unlines, List.cons_append] at ih ⊢; rw [ih]
theorem plain_join : ∀ ws : List (List UInt8), plainW ws → ∀ b ∈ joinT ws, b ≠ 10 := by
  intro ws
  induction ws with
  | nil => intro _ b hb; simp [joinT] at hb
  | cons w ws ih =>
    intro hw b hb
    simp only [joinT, List.mem_cons, List.mem_append] at hb
    rcases hb with h | h | h
    · subst h; decide
    · exact (hw w (by simp) b h).2
    · exact ih (fun v hv => hw v (by simp [hv])) b h
theorem un_len : ∀ l : List (List UInt8), l.length ≤ (unlines l).length ∧ ∀ x ∈ l, x.length ≤ (unlines l).length := by
  intro l
  induction l with
  | nil => exact ⟨Nat.le_refl _, fun x hx => by simp at hx⟩
  | cons a l ih =>
    simp only [unlines, List.length_append, List.length_cons]
    refine ⟨by have := ih.1; omega, fun x hx => ?_⟩
    rcases List.mem_cons.1 hx with rfl | hx
    · omega
    · have := ih.2 x hx; omega
end Go.Proofs.Ytbiifkcphaljeaa

namespace Go.Proofs.Ytbiifkcphaljeaa
open Go Go.RowKit
set_option linter.unusedVariables false
set_option maxHeartbeats 400000

/-- A record. -/
structure Rc where
  co : Int
  ad : Int
  da : Int
  re : Bool
  wr : Bool
  po : Int
  q : Bool
  mo : Int
def rcB (x y : Rc) : Bool := x.co == y.co && x.ad == y.ad && x.da == y.da && x.re == y.re && x.wr == y.wr && x.po == y.po && x.q == y.q && x.mo == y.mo
theorem rcB_iff (x y : Rc) : rcB x y = true ↔ x = y := by
  cases x
  cases y
  simp [rcB, and_assoc]
/-- What the types let be. -/
structure Rr (r : Rc) : Prop where
  c0 : 0 ≤ r.co
  c1 : r.co ≤ 255
  a0 : 0 ≤ r.ad
  a1 : r.ad ≤ 65535
  d0 : 0 ≤ r.da
  d1 : r.da ≤ 255
  p0 : 0 ≤ r.po
  p1 : r.po ≤ 255
  m0 : 0 ≤ r.mo
  m1 : r.mo ≤ 255
def mayR (r : Rc) : Bool := decide (r.co ≤ 3) && decide (r.po ≤ 7) && decide (r.mo ≤ 3) && !(r.re && r.wr)
theorem may_iff (r : Rc) : mayR r = true ↔ r.co ≤ 3 ∧ r.po ≤ 7 ∧ r.mo ≤ 3 ∧ ¬ (r.re = true ∧ r.wr = true) := by
  unfold mayR
  cases r.re <;> cases r.wr <;> simp [and_assoc]
def dig (n : Int) : UInt8 := UInt8.ofNat (48 + n.toNat)
theorem dig_nat (n : Int) (h0 : 0 ≤ n) (h1 : n ≤ 207) : ((dig n).toNat : Int) = 48 + n := by
  unfold dig
  simp only [UInt8.toNat_ofNat', Nat.reducePow]
  omega
def wR : List UInt8 := [114]
def wW : List UInt8 := [119]
def wQ : List UInt8 := [113]
def wPause : List UInt8 := [112, 97, 117, 115, 101]
def wReset : List UInt8 := [114, 101, 115, 101, 116]
def wLoad : List UInt8 := [108, 111, 97, 100]
def moW (m : Int) : List (List UInt8) := if m = 1 then [wPause] else if m = 2 then [wReset] else if m = 3 then [wLoad] else []
def endR (r : Rc) : List (List UInt8) := (if r.re then [wR] else []) ++ ((if r.wr then [wW] else []) ++ ((if r.po ≠ 0 then [[110, dig r.po]] else []) ++ ((if r.q then [wQ] else []) ++ moW r.mo)))
/-- The words behind the first. -/
def restR (r : Rc) : List (List UInt8) := hexL 4 r.ad.toNat :: hexL 2 r.da.toNat :: endR r
/-- A record's line. -/
def lineR (r : Rc) : List UInt8 := [115, dig r.co] ++ joinT (restR r)
def stepR (w : List UInt8) (r : Rc) : Rc :=
  if w = wR then { r with re := true } else if w = wW then { r with wr := true } else if w = wQ then { r with q := true } else if w = wPause then { r with mo := 1 } else if w = wReset then { r with mo := 2 } else if w = wLoad then { r with mo := 3 }
  else if w.length = 2 then { r with po := (((w.getD 1 0).toNat : Int) - 48) % 256 } else r
def readR : List (List UInt8) → Rc → Rc
  | [], r => r
  | w :: l, r => readR l (stepR w r)
def begR (c : UInt8) (a d : Int) : Rc := ⟨((c.toNat : Int) - 48) % 256, a, d, false, false, 0, false, 0⟩
def recB (r : Rc) (line : List UInt8) : Bool := mayR r && decide (lineR r = line)
def recN (l : List (List UInt8)) (c : UInt8) : Option Int → Option Int → Option Rc
  | some a, some d => if a ≤ 65535 ∧ d ≤ 255 then some (readR l (begR c a d)) else none
  | _, _ => none
/-- The record of a row of words, as far as they are one's. -/
def recW (ws : List (List UInt8)) : Option Rc := match ws with
  | w0 :: w1 :: w2 :: l => if w0.length = 2 then recN l (w0.getD 1 0) (numOf ⟨w1.toArray⟩) (numOf ⟨w2.toArray⟩) else none
  | _ => none
def recP (line : List UInt8) : Option Rc → Option Rc
  | some r => if recB r line then some r else none
  | none => none
def recOf (line : List UInt8) : Option Rc := if 40 < line.length then none else recP line (recW (splitW line))
theorem read_one (b : Bool) (w : List UInt8) (f : Rc → Rc) (hs : ∀ r, stepR w r = f r) (l : List (List UInt8)) (r : Rc) : readR ((if b then [w] else []) ++ l) r = readR l (if b then f r else r) := by
  cases b
  · rfl
  · show readR l (stepR w r) = _
    rw [hs]
    rfl
theorem num_hex (D N : Nat) (hD : 1 ≤ D ∧ D ≤ 8) (hN : N < 16 ^ D) : numOf ⟨(hexL D N).toArray⟩ = some (N : Int) := by
  unfold numOf
  have hs : (ByteArray.mk (hexL D N).toArray).size = D := by show (hexL D N).toArray.size = D; simp [hexL_len]
  rw [if_pos (by rw [hs]; exact hD)]
  exact numGo_hexL D N hN
theorem num_lo {s : ByteArray} {n : Int} (h : numOf s = some n) : 0 ≤ n := by
  unfold numOf at h
  split at h
  · exact (numGo_le _ 0 n (Int.le_refl _) h).1
  · cases h
theorem read_end (r z : Rc) (g : Rr r) (hm : mayR r = true) (hz : z = ⟨r.co, r.ad, r.da, false, false, 0, false, 0⟩) : readR (endR r) z = r := by
  obtain ⟨m1, m2, m3, m4⟩ := (may_iff r).1 hm
  have hp : ∀ l y, readR ((if r.po ≠ 0 then [[110, dig r.po]] else []) ++ l) y = readR l (if r.po ≠ 0 then { y with po := r.po } else y) := by
    intro l y
    by_cases h : r.po ≠ 0
    · rw [if_pos h, if_pos h]
      show readR l (stepR [110, dig r.po] y) = _
      congr 1
      have e := dig_nat r.po g.p0 (by omega)
      unfold stepR
      rw [if_neg (by simp [wR]), if_neg (by simp [wW]), if_neg (by simp [wQ]), if_neg (by simp [wPause]), if_neg (by simp [wReset]), if_neg (by simp [wLoad]), if_pos (show [110, dig r.po].length = 2 from rfl)]
      simp only [List.getD_cons_succ, List.getD_cons_zero]
      rw [e]
      congr 1
      have := g.p0
      omega
    · rw [if_neg h, if_neg h]; rfl
  have hq : ∀ y : Rc, readR (moW r.mo) y = { y with mo := if r.mo = 0 then y.mo else r.mo } := by
    intro y
    have h0 := g.m0
    unfold moW
    rcases (show r.mo = 0 ∨ r.mo = 1 ∨ r.mo = 2 ∨ r.mo = 3 by omega) with h | h | h | h <;> rw [h]
    · simp [readR]
    · simp [readR, stepR, wPause, wR, wW, wQ]
    · simp [readR, stepR, wPause, wReset, wR, wW, wQ]
    · simp [readR, stepR, wPause, wReset, wLoad, wR, wW, wQ]
  unfold endR
  rw [read_one _ wR (fun y => { y with re := true }) (fun y => by unfold stepR; rw [if_pos rfl]),
    read_one _ wW (fun y => { y with wr := true }) (fun y => by unfold stepR; rw [if_neg (by decide), if_pos rfl]), hp,
    read_one _ wQ (fun y => { y with q := true }) (fun y => by unfold stepR; rw [if_neg (by decide), if_neg (by decide), if_pos rfl]), hq, hz]
  obtain ⟨co, ad, da, re, wr, po, q, mo⟩ := r
  simp only
  by_cases h1 : po = 0 <;> by_cases h2 : mo = 0 <;> cases re <;> cases wr <;> cases q <;> simp [h1, h2]
theorem end_plain (r : Rc) (p0 : 0 ≤ r.po) (p1 : r.po ≤ 7) : plainW (endR r) := by
  unfold endR
  refine (plain_if _ _ (word_big _ (by decide))).app ((plain_if _ _ (word_big _ (by decide))).app ((plain_if _ _ (word_big _ fun b hb => ?_)).app ((plain_if _ _ (word_big _ (by decide))).app ?_)))
  · have e := dig_nat r.po p0 (by omega)
    simp at hb
    rcases hb with h | h <;> subst h
    · decide
    · omega
  · unfold moW
    (repeat' split)
    · exact word_big _ (by decide)
    · exact word_big _ (by decide)
    · exact word_big _ (by decide)
    · intro w hw; simp at hw
theorem end_len (r : Rc) : (joinT (endR r)).length ≤ 15 := by
  unfold endR
  simp only [joinT_app, List.length_append]
  have h1 := joinT_if (r.re = true) [wR] 2 (by decide)
  have h2 := joinT_if (r.wr = true) [wW] 2 (by decide)
  have h3 := joinT_if (r.po ≠ 0) [[110, dig r.po]] 3 (by simp [joinT])
  have h4 := joinT_if (r.q = true) [wQ] 2 (by decide)
  have h5 : (joinT (moW r.mo)).length ≤ 6 := by
    unfold moW
    (repeat' split) <;> decide
  omega
theorem line_facts {r : Rc} (g : Rr r) (hm : mayR r = true) : splitW (lineR r) = [115, dig r.co] :: restR r ∧ (lineR r).length ≤ 25 ∧ ∀ b ∈ lineR r, b ≠ 10 := by
  obtain ⟨m1, m2, m3, m4⟩ := (may_iff r).1 hm
  have hr : plainW (restR r) := plainW.app (a := [hexL 4 r.ad.toNat]) (word_big _ fun b hb => (hex_byte _ _ b hb).1) (plainW.app (a := [hexL 2 r.da.toNat]) (word_big _ fun b hb => (hex_byte _ _ b hb).1) (end_plain r g.p0 m2))
  have hd : ∀ b ∈ [115, dig r.co], plainB b := fun b hb => by
    have e := dig_nat r.co g.c0 (by omega)
    simp at hb
    rcases hb with h | h <;> subst h
    · exact plain_big _ (by decide)
    · exact plain_big _ (by have := g.c0; omega)
  refine ⟨split_join (restR r) _ (fun b hb => (hd b hb).1) (fun w hw b hb => (hr w hw b hb).1), ?_, fun b hb => ?_⟩
  · have := end_len r
    unfold lineR restR
    simp [joinT, hexL_len]
    omega
  · unfold lineR at hb
    rcases List.mem_append.1 hb with h | h
    · exact (hd b h).2
    · exact plain_join _ hr b h
theorem rec_line {r : Rc} (g : Rr r) (hm : mayR r = true) : recOf (lineR r) = some r := by
  obtain ⟨h1, h2, h3⟩ := line_facts g hm
  obtain ⟨m1, m2, m3, m4⟩ := (may_iff r).1 hm
  have hr : recW (splitW (lineR r)) = some r := by
    rw [h1]
    have e1 := num_hex 4 r.ad.toNat (by decide) (by have := g.a1; show _ < 65536; omega)
    have e2 := num_hex 2 r.da.toNat (by decide) (by have := g.d1; show _ < 256; omega)
    have e3 := dig_nat r.co g.c0 (by omega)
    have := g.a0
    have := g.a1
    have := g.d0
    have := g.d1
    have := g.c0
    unfold restR recW
    simp only [e1, e2, List.length_cons, List.length_nil, Nat.zero_add, if_true, recN]
    rw [if_pos (by omega)]
    congr 1
    refine read_end r _ g hm ?_
    unfold begR
    simp only [List.getD_cons_succ, List.getD_cons_zero]
    rw [e3]
    congr 1
    · omega
    · omega
    · omega
  unfold recOf
  rw [if_neg (by omega), hr]
  simp [recP, recB, hm]
theorem read_range (ws : List (List UInt8)) : ∀ r : Rc, Rr r → Rr (readR ws r) := by
  induction ws with
  | nil => intro r h; exact h
  | cons w ws ih =>
    intro r h
    refine ih _ ?_
    obtain ⟨c0, c1, a0, a1, d0, d1, p0, p1, m0, m1⟩ := h
    unfold stepR
    (repeat' split) <;> exact ⟨c0, c1, a0, a1, d0, d1, by first | exact p0 | (dsimp only; omega), by first | exact p1 | (dsimp only; omega), by first | exact m0 | (dsimp only; decide), by first | exact m1 | (dsimp only; decide)⟩
theorem recW_range {ws : List (List UInt8)} {r : Rc} (h : recW ws = some r) : Rr r := by
  unfold recW at h
  split at h
  · split at h
    · unfold recN at h
      split at h
      · rename_i a d ha hd
        split at h
        · rename_i hb
          have e := Option.some.inj h
          rw [← e]
          exact read_range _ _ ⟨by unfold begR; dsimp only; omega, by unfold begR; dsimp only; omega, num_lo ha, hb.1, num_lo hd, hb.2, by unfold begR; dsimp only; decide, by unfold begR; dsimp only; decide, by unfold begR; dsimp only; decide, by unfold begR; dsimp only; decide⟩
        · cases h
      · cases h
    · cases h
  · cases h
theorem rec_some {line : List UInt8} {r : Rc} (h : recOf line = some r) : lineR r = line ∧ mayR r = true ∧ Rr r := by
  unfold recOf recP at h
  split at h
  · cases h
  · split at h
    · rename_i s hs
      split at h
      · rename_i hb
        have e := Option.some.inj h
        subst e
        simp [recB] at hb
        exact ⟨hb.2, hb.1, recW_range hs⟩
      · cases h
    · cases h
def printR : List Rc → List UInt8
  | [] => []
  | r :: l => lineR r ++ 10 :: printR l
theorem printR_app (a b : List Rc) : printR (a ++ b) = printR a ++ printR b := by
  induction a with
  | nil => rfl
  | cons s a ih => simp only [List.cons_append, printR, ih, List.append_assoc]
def parseGo : List (List UInt8) → Nat → List Rc → List Rc × Int × Int
  | [], i, out => (out, 0, 0)
  | x :: l, i, out => match recOf x with | none => ([], 90, (i : Int) + 1) | some r => parseGo l (i + 1) (out ++ [r])
def parseR (t : List UInt8) : List Rc × Int × Int :=
  if 65536 < t.length then ([], 2, 0) else if (parseGo (linesL t).1 0 []).2.1 ≠ 0 then parseGo (linesL t).1 0 [] else if (linesL t).2 = [] then parseGo (linesL t).1 0 [] else ([], 90, ((linesL t).1.length : Int) + 1)
def allM (l : List Rc) : Bool := l.all mayR
theorem allM_cons (r : Rc) (l : List Rc) : allM (r :: l) = (mayR r && allM l) := rfl
theorem allM_mem {l : List Rc} (h : allM l = true) : ∀ r ∈ l, mayR r = true := fun r hr => List.all_eq_true.1 h r hr
def checkR (l : List Rc) : Int := if 4194304 < l.length then 2 else if allM l then 0 else 1
theorem check_ok {l : List Rc} (h : checkR l = 0) : l.length ≤ 4194304 ∧ allM l = true := by
  unfold checkR at h
  split at h
  · omega
  · split at h
    · exact ⟨by omega, by assumption⟩
    · omega
def AllG (l : List Rc) : Prop := ∀ r ∈ l, Rr r
theorem lines_print (l : List Rc) (h : AllG l) (hm : allM l = true) : linesL (printR l) = (l.map lineR, []) := by
  induction l with
  | nil => rfl
  | cons s l ih =>
    rw [allM_cons, Bool.and_eq_true] at hm
    simp only [printR]
    rw [lines_word _ _ (line_facts (h s (by simp)) hm.1).2.2, ih (fun t ht => h t (by simp [ht])) hm.2]
    rfl
theorem parse_go (l : List Rc) : ∀ (i : Nat) (out : List Rc), AllG l → allM l = true → parseGo (l.map lineR) i out = (out ++ l, 0, 0) := by
  induction l with
  | nil => intro i out _ _; simp [parseGo]
  | cons s l ih =>
    intro i out h hm
    rw [allM_cons, Bool.and_eq_true] at hm
    simp only [List.map_cons, parseGo, rec_line (h s (by simp)) hm.1]
    rw [ih _ _ (fun t ht => h t (by simp [ht])) hm.2, List.append_assoc]
    rfl
/-- What is printed is read as it was. -/
theorem parse_print (l : List Rc) (h : AllG l) (hc : checkR l = 0) (hl : (printR l).length ≤ 65536) : parseR (printR l) = (l, 0, 0) := by
  obtain ⟨k1, k2⟩ := check_ok hc
  have e := lines_print l h k2
  have g := parse_go l 0 [] h k2
  unfold parseR
  rw [if_neg (by omega), e, g]
  simp
theorem parse_back (ls : List (List UInt8)) : ∀ (i : Nat) (out m : List Rc) (a : Int), parseGo ls i out = (m, 0, a) → a = 0 ∧ ∃ x, m = out ++ x ∧ AllG x ∧ allM x = true ∧ printR x = unlines ls ∧ x.length = ls.length := by
  induction ls with
  | nil =>
    intro i out m a h
    simp only [parseGo] at h
    cases h
    exact ⟨rfl, [], by simp, fun s hs => by simp at hs, rfl, rfl, rfl⟩
  | cons w ls ih =>
    intro i out m a h
    simp only [parseGo] at h
    split at h
    · cases h
    · rename_i s hs
      obtain ⟨h0, x, e1, e2, e3, e4, e5⟩ := ih _ _ _ _ h
      obtain ⟨l1, l2, l3⟩ := rec_some hs
      refine ⟨h0, s :: x, by rw [e1]; simp, fun t ht => ?_, by rw [allM_cons, l2, e3]; rfl, by simp only [printR, unlines, l1, e4], by simp [e5]⟩
      rcases List.mem_cons.1 ht with rfl | ht
      · exact l3
      · exact e2 t ht
/-- What is read is printed as it was. -/
theorem print_parse (t : List UInt8) (m : List Rc) (a : Int) (h : parseR t = (m, 0, a)) : a = 0 ∧ AllG m ∧ checkR m = 0 ∧ printR m = t ∧ t.length ≤ 65536 ∧ m.length ≤ 65536 := by
  unfold parseR at h
  split at h
  · cases h
  · rename_i h1
    split at h
    · rename_i h3
      rw [h] at h3
      exact absurd rfl h3
    · split at h
      · rename_i h4
        obtain ⟨h0, x, e1, e2, e3, e4, e5⟩ := parse_back _ _ _ _ _ h
        rw [List.nil_append] at e1
        subst e1
        have hun := lines_un t
        rw [h4, List.append_nil] at hun
        have hl := (un_len (linesL t).1).1
        rw [hun] at hl
        refine ⟨h0, e2, ?_, by rw [e4, hun], by omega, by omega⟩
        unfold checkR
        rw [if_neg (by omega), if_pos e3]
      · cases h
theorem parse_bad (t : List UInt8) (m : List Rc) (e a : Int) (h : parseR t = (m, e, a)) (he : e ≠ 0) : m = [] ∧ 0 ≤ a := by
  have key : ∀ (ls : List (List UInt8)) (i : Nat) (out m : List Rc) (e a : Int), parseGo ls i out = (m, e, a) → e ≠ 0 → m = [] ∧ 0 ≤ a := by
    intro ls
    induction ls with
    | nil => intro i out m e a h he; simp only [parseGo] at h; cases h; exact absurd rfl he
    | cons w ls ih =>
      intro i out m e a h he
      simp only [parseGo] at h
      split at h
      · cases h; exact ⟨rfl, by omega⟩
      · exact ih _ _ _ _ _ h he
  unfold parseR at h
  split at h
  · cases h; exact ⟨rfl, Int.le_refl _⟩
  · split at h
    · exact key _ _ _ _ _ _ h he
    · split at h
      · exact key _ _ _ _ _ _ h he
      · cases h; exact ⟨rfl, by omega⟩
def printE (l : List Rc) : Int := if checkR l ≠ 0 then checkR l else if 65536 < (printR l).length then 2 else 0
def printB (l : List Rc) : ByteArray := if printE l = 0 then ⟨(printR l).toArray⟩ else ⟨#[]⟩
/-- The first place at which two traces part. -/
def apartGo : List Rc → List Rc → Nat → Int
  | x :: a, y :: b, i => if rcB x y then apartGo a b (i + 1) else (i : Int)
  | [], [], _ => -1
  | _, _, i => (i : Int)
def apartR (a b : List Rc) : Int := apartGo a b 0
theorem apart_same (a : List Rc) : ∀ i, apartGo a a i = -1 := by
  induction a with
  | nil => intro i; rfl
  | cons x a ih => intro i; simp only [apartGo]; rw [if_pos ((rcB_iff x x).2 rfl)]; exact ih _
theorem apart_neg (a : List Rc) : ∀ (b : List Rc) (i : Nat), (apartGo a b i < 0) ↔ a = b := by
  induction a with
  | nil => intro b i; cases b <;> simp [apartGo]
  | cons x a ih =>
    intro b i
    cases b with
    | nil => simp [apartGo]
    | cons y b =>
      simp only [apartGo]
      by_cases h : rcB x y = true
      · rw [if_pos h, ih, (rcB_iff x y).1 h]; simp
      · rw [if_neg h]
        constructor
        · intro h2; omega
        · intro e; exact absurd ((rcB_iff x y).2 (List.cons.inj e).1) h
theorem apart_sym (a : List Rc) : ∀ (b : List Rc) (i : Nat), apartGo a b i = apartGo b a i := by
  induction a with
  | nil => intro b i; cases b <;> rfl
  | cons x a ih =>
    intro b i
    cases b with
    | nil => rfl
    | cons y b =>
      simp only [apartGo]
      have e : rcB x y = rcB y x := by
        rw [Bool.eq_iff_iff, rcB_iff, rcB_iff]
        exact eq_comm
      rw [e, ih]
end Go.Proofs.Ytbiifkcphaljeaa
