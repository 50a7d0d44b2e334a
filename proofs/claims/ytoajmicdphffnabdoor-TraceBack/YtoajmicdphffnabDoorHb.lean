/- A record read word by word, each at its own place: that is the record whose line it is. A text read line by line; what the program calls of Go's library for it. -/
import Derived.Test.YtoajmicdphffnabDoorKb
import Derived.Test.YtoajmicdphffnabDoorKr
import Derived.Test.YtoajmicdphffnabDoorSh
import Derived.Lib.SmallJoins
namespace Go.Proofs.YtoajmicdphffnabDoor
open Go Go.RowKit
set_option linter.unusedVariables false
set_option maxHeartbeats 1000000
set_option maxRecDepth 20000

/-- What a sign and a digit behind it say. -/
def digL (w : List UInt8) (s : UInt8) (lo hi : Int) : Option Int := match w with
  | [a, b] => if a = s ∧ lo ≤ ((b.toNat : Int) - 48) % 256 ∧ ((b.toNat : Int) - 48) % 256 ≤ hi then some (((b.toNat : Int) - 48) % 256) else none
  | _ => none
def numL (w : List UInt8) (D : Nat) : Bool := (numOf ⟨w.toArray⟩).isSome && decide (w.length = D)
/-- The word at a place, laid into a record. -/
def tkR (j : Nat) (w : List UInt8) (r : Rc) : Rc := match j with
  | 0 => { r with co := (digL w 115 0 3).getD 0 }
  | 1 => { r with ad := numV ⟨w.toArray⟩ % 65536 }
  | 2 => { r with da := numV ⟨w.toArray⟩ % 256 }
  | 3 => { r with re := decide (w = wR) }
  | 4 => { r with wr := decide (w = wW) }
  | 5 => { r with po := (digL w 110 1 7).getD 0 }
  | 6 => { r with q := decide (w = wQ) }
  | _ => { r with mo := if w = wPause then 1 else if w = wReset then 2 else if w = wLoad then 3 else r.mo }
def tkB (j : Nat) (w : List UInt8) : Bool := match j with
  | 0 => (digL w 115 0 3).isSome
  | 1 => numL w 4
  | 2 => numL w 2
  | 3 => decide (w = wR)
  | 4 => decide (w = wW)
  | 5 => (digL w 110 1 7).isSome
  | 6 => decide (w = wQ)
  | _ => decide (w = wPause) || decide (w = wReset) || decide (w = wLoad)
/-- One place: what is left, and the record; none: a word that must stand there does not. -/
def stR (j : Nat) (r : Rc) : List (List UInt8) → Option (Rc × List (List UInt8))
  | [] => if j < 3 then none else some (r, [])
  | w :: l => if tkB j w then some (tkR j w r, l) else if j < 3 then none else some (tkR j w r, w :: l)
def rdR : Nat → Nat → Rc → List (List UInt8) → Option (Rc × List (List UInt8))
  | 0, _, r, ws => some (r, ws)
  | n + 1, j, r, ws => match stR j r ws with
    | none => none
    | some (r', ws') => rdR n (j + 1) r' ws'
def endL : Option (Rc × List (List UInt8)) → Option Rc
  | some (r, []) => if mayR r then some r else none
  | _ => none
def zRc : Rc := ⟨0, 0, 0, false, false, 0, false, 0⟩
def readL (ws : List (List UInt8)) : Option Rc := endL (rdR 8 0 zRc ws)
theorem rdR_succ (n j : Nat) (r : Rc) (ws : List (List UInt8)) : rdR (n + 1) j r ws = match stR j r ws with | none => none | some (r', ws') => rdR n (j + 1) r' ws' := rfl

theorem stR_nil (j : Nat) (r : Rc) : stR j r [] = if j < 3 then none else some (r, []) := rfl
theorem stR_cons (j : Nat) (r : Rc) (w : List UInt8) (l : List (List UInt8)) : stR j r (w :: l) = if tkB j w then some (tkR j w r, l) else if j < 3 then none else some (tkR j w r, w :: l) := rfl
theorem digL_two (a b s : UInt8) (lo hi : Int) : digL [a, b] s lo hi = if a = s ∧ lo ≤ ((b.toNat : Int) - 48) % 256 ∧ ((b.toNat : Int) - 48) % 256 ≤ hi then some (((b.toNat : Int) - 48) % 256) else none := rfl
theorem digL_some {w : List UInt8} {s : UInt8} {lo hi d : Int} (h : digL w s lo hi = some d) : lo ≤ d ∧ d ≤ hi ∧ ∃ b, w = [s, b] ∧ d = ((b.toNat : Int) - 48) % 256 := by
  unfold digL at h
  split at h
  · split at h
    · rename_i a b hc
      have e := Option.some.inj h
      subst e
      exact ⟨hc.2.1, hc.2.2, b, by rw [hc.1], rfl⟩
    · cases h
  · cases h
theorem dig_back (b : UInt8) (h : ((b.toNat : Int) - 48) % 256 ≤ 7) : dig (((b.toNat : Int) - 48) % 256) = b := by
  have hb := b.toNat_lt
  have e : (((b.toNat : Int) - 48) % 256) = (b.toNat : Int) - 48 := by omega
  rw [e]
  unfold dig
  apply UInt8.toNat_inj.1
  simp only [UInt8.toNat_ofNat', Nat.reducePow]
  omega
theorem digL_word {w : List UInt8} {s : UInt8} {lo hi d : Int} (hh : hi ≤ 7) (h : digL w s lo hi = some d) : w = [s, dig d] := by
  obtain ⟨h1, h2, b, h3, h4⟩ := digL_some h
  rw [h3, h4, dig_back b (by omega)]
theorem digL_dig (s : UInt8) (lo hi d : Int) (h0 : 0 ≤ d) (h1 : lo ≤ d) (h2 : d ≤ hi) (h3 : hi ≤ 7) : digL [s, dig d] s lo hi = some d := by
  have e := dig_nat d h0 (by omega)
  rw [digL_two, e, show ((48 + d - 48) % 256) = d by omega, if_pos ⟨rfl, h1, h2⟩]
theorem digL_no (w : List UInt8) (s : UInt8) (lo hi : Int) (h : w.head? ≠ some s) : digL w s lo hi = none := by
  unfold digL
  split
  · rw [if_neg]
    rintro ⟨e, _⟩
    exact h (by simp [e])
  · rfl
theorem numL_word {w : List UInt8} {D : Nat} (h : numL w D = true) : ∃ n : Nat, numOf ⟨w.toArray⟩ = some (n : Int) ∧ n < 16 ^ D ∧ w = hexL D n := by
  unfold numL at h
  rw [Bool.and_eq_true, Option.isSome_iff_exists] at h
  obtain ⟨⟨x, hx⟩, hl⟩ := h
  have hl := of_decide_eq_true hl
  have h0 := num_lo hx
  have hg : numGo w 0 = some x := by
    unfold numOf at hx
    split at hx
    · exact hx
    · cases hx
  refine ⟨x.toNat, by rw [hx, Int.toNat_of_nonneg h0], ?_, ?_⟩
  · have := (numGo_le w 0 x (by omega) hg).2
    rw [hl] at this
    have e : ((0 : Int) + 1) * 16 ^ D = ((16 ^ D : Nat) : Int) := by push_cast; omega
    rw [e] at this
    omega
  · have := hexL_numGo w x hg
    rw [hl] at this
    exact this.symm
theorem numL_hex (D n : Nat) (hD : 1 ≤ D ∧ D ≤ 8) (hn : n < 16 ^ D) : numL (hexL D n) D = true ∧ numV ⟨(hexL D n).toArray⟩ = (n : Int) := by
  have e := num_hex D n hD hn
  unfold numL numV
  rw [e]
  simp [hexL_len]
/-- One place behind the third. -/
theorem st_flag (j : Nat) (hj : 3 ≤ j) (r r' : Rc) (ws ws' : List (List UInt8)) (h : stR j r ws = some (r', ws')) : (∃ w, ws = w :: ws' ∧ tkB j w = true ∧ r' = tkR j w r) ∨ (ws = ws' ∧ (ws = [] ∧ r' = r ∨ ∃ w l, ws = w :: l ∧ tkB j w = false ∧ r' = tkR j w r)) := by
  cases ws with
  | nil =>
    rw [stR_nil, if_neg (by omega)] at h
    cases h
    exact .inr ⟨rfl, .inl ⟨rfl, rfl⟩⟩
  | cons w l =>
    rw [stR_cons] at h
    by_cases hb : tkB j w = true
    · rw [if_pos hb] at h
      cases h
      exact .inl ⟨w, rfl, hb, rfl⟩
    · rw [if_neg hb, if_neg (by omega)] at h
      cases h
      exact .inr ⟨rfl, .inr ⟨w, l, rfl, by simpa using hb, rfl⟩⟩
theorem st3 {r r' : Rc} {ws ws' : List (List UInt8)} (h0 : r.re = false) (h : stR 3 r ws = some (r', ws')) : ∃ b, r' = { r with re := b } ∧ ws = (if b then [wR] else []) ++ ws' := by
  rcases st_flag 3 (by omega) _ _ _ _ h with ⟨w, e, hb, hr⟩ | ⟨e, ⟨_, hr⟩ | ⟨w, l, _, hb, hr⟩⟩
  · have hw : w = wR := by simpa [tkB] using hb
    exact ⟨true, by rw [hr, hw]; simp [tkR], by rw [e, hw]; rfl⟩
  · exact ⟨false, by rw [hr, ← h0], by simpa using e⟩
  · have hw : ¬ w = wR := by simpa [tkB] using hb
    exact ⟨false, by rw [hr]; simp [tkR, hw], by simpa using e⟩
theorem st4 {r r' : Rc} {ws ws' : List (List UInt8)} (h0 : r.wr = false) (h : stR 4 r ws = some (r', ws')) : ∃ b, r' = { r with wr := b } ∧ ws = (if b then [wW] else []) ++ ws' := by
  rcases st_flag 4 (by omega) _ _ _ _ h with ⟨w, e, hb, hr⟩ | ⟨e, ⟨_, hr⟩ | ⟨w, l, _, hb, hr⟩⟩
  · have hw : w = wW := by simpa [tkB] using hb
    exact ⟨true, by rw [hr, hw]; simp [tkR], by rw [e, hw]; rfl⟩
  · exact ⟨false, by rw [hr, ← h0], by simpa using e⟩
  · have hw : ¬ w = wW := by simpa [tkB] using hb
    exact ⟨false, by rw [hr]; simp [tkR, hw], by simpa using e⟩
theorem st6 {r r' : Rc} {ws ws' : List (List UInt8)} (h0 : r.q = false) (h : stR 6 r ws = some (r', ws')) : ∃ b, r' = { r with q := b } ∧ ws = (if b then [wQ] else []) ++ ws' := by
  rcases st_flag 6 (by omega) _ _ _ _ h with ⟨w, e, hb, hr⟩ | ⟨e, ⟨_, hr⟩ | ⟨w, l, _, hb, hr⟩⟩
  · have hw : w = wQ := by simpa [tkB] using hb
    exact ⟨true, by rw [hr, hw]; simp [tkR], by rw [e, hw]; rfl⟩
  · exact ⟨false, by rw [hr, ← h0], by simpa using e⟩
  · have hw : ¬ w = wQ := by simpa [tkB] using hb
    exact ⟨false, by rw [hr]; simp [tkR, hw], by simpa using e⟩
theorem st5 {r r' : Rc} {ws ws' : List (List UInt8)} (h0 : r.po = 0) (h : stR 5 r ws = some (r', ws')) : ∃ p, 0 ≤ p ∧ p ≤ 7 ∧ r' = { r with po := p } ∧ ws = (if p ≠ 0 then [[110, dig p]] else []) ++ ws' := by
  rcases st_flag 5 (by omega) _ _ _ _ h with ⟨w, e, hb, hr⟩ | ⟨e, ⟨_, hr⟩ | ⟨w, l, _, hb, hr⟩⟩
  · have hb : (digL w 110 1 7).isSome = true := hb
    obtain ⟨d, hd⟩ := Option.isSome_iff_exists.1 hb
    obtain ⟨h1, h2, _⟩ := digL_some hd
    refine ⟨d, by omega, h2, by rw [hr]; simp [tkR, hd], ?_⟩
    rw [if_pos (by omega), e, digL_word (by omega) hd]
    rfl
  · exact ⟨0, by omega, by omega, by rw [hr, ← h0], by simpa using e⟩
  · have hb : (digL w 110 1 7).isSome = false := hb
    have hd : digL w 110 1 7 = none := by simpa using hb
    exact ⟨0, by omega, by omega, by rw [hr]; simp [tkR, hd], by simpa using e⟩
theorem st7 {r r' : Rc} {ws ws' : List (List UInt8)} (h0 : r.mo = 0) (h : stR 7 r ws = some (r', ws')) : ∃ m, 0 ≤ m ∧ m ≤ 3 ∧ r' = { r with mo := m } ∧ ws = moW m ++ ws' := by
  rcases st_flag 7 (by omega) _ _ _ _ h with ⟨w, e, hb, hr⟩ | ⟨e, ⟨_, hr⟩ | ⟨w, l, _, hb, hr⟩⟩
  · simp [tkB, or_assoc] at hb
    rcases hb with hw | hw | hw
    · exact ⟨1, by omega, by omega, by rw [hr, hw]; simp [tkR], by rw [e, hw]; rfl⟩
    · exact ⟨2, by omega, by omega, by rw [hr, hw]; simp [tkR, wPause, wReset], by rw [e, hw]; rfl⟩
    · exact ⟨3, by omega, by omega, by rw [hr, hw]; simp [tkR, wPause, wReset, wLoad], by rw [e, hw]; rfl⟩
  · exact ⟨0, by omega, by omega, by rw [hr, ← h0], by rw [e]; rfl⟩
  · simp [tkB, and_assoc] at hb
    exact ⟨0, by omega, by omega, by rw [hr]; simp [tkR, hb.1, hb.2.1, hb.2.2, h0], by rw [e]; rfl⟩
theorem st_must (j : Nat) (hj : j < 3) (r r' : Rc) (ws ws' : List (List UInt8)) (h : stR j r ws = some (r', ws')) : ∃ w, ws = w :: ws' ∧ tkB j w = true ∧ r' = tkR j w r := by
  cases ws with
  | nil => rw [stR_nil, if_pos hj] at h; cases h
  | cons w l =>
    rw [stR_cons] at h
    by_cases hb : tkB j w = true
    · rw [if_pos hb] at h
      cases h
      exact ⟨w, rfl, hb, rfl⟩
    · rw [if_neg hb, if_pos hj] at h
      cases h
theorem rd_step {n j : Nat} {r : Rc} {ws : List (List UInt8)} {x : Rc × List (List UInt8)} (h : rdR (n + 1) j r ws = some x) : ∃ r' ws', stR j r ws = some (r', ws') ∧ rdR n (j + 1) r' ws' = some x := by
  rw [rdR_succ] at h
  cases hs : stR j r ws with
  | none => rw [hs] at h; cases h
  | some y => rw [hs] at h; exact ⟨y.1, y.2, rfl, h⟩
theorem rd_line {ws : List (List UInt8)} {r : Rc} (h : rdR 8 0 zRc ws = some (r, [])) : ws = [115, dig r.co] :: restR r ∧ Rr r := by
  obtain ⟨r1, l1, s0, h⟩ := rd_step h
  obtain ⟨r2, l2, s1, h⟩ := rd_step h
  obtain ⟨r3, l3, s2, h⟩ := rd_step h
  obtain ⟨r4, l4, s3, h⟩ := rd_step h
  obtain ⟨r5, l5, s4, h⟩ := rd_step h
  obtain ⟨r6, l6, s5, h⟩ := rd_step h
  obtain ⟨r7, l7, s6, h⟩ := rd_step h
  obtain ⟨r8, l8, s7, h⟩ := rd_step h
  cases h
  obtain ⟨w0, e0, b0, rfl⟩ := st_must 0 (by omega) _ _ _ _ s0
  obtain ⟨w1, e1, b1, rfl⟩ := st_must 1 (by omega) _ _ _ _ s1
  obtain ⟨w2, e2, b2, rfl⟩ := st_must 2 (by omega) _ _ _ _ s2
  have b0 : (digL w0 115 0 3).isSome = true := b0
  obtain ⟨d, hd⟩ := Option.isSome_iff_exists.1 b0
  obtain ⟨d0, d3, _⟩ := digL_some hd
  obtain ⟨a, ha, a6, ea⟩ := numL_word (show numL w1 4 = true from b1)
  obtain ⟨v, hv, v6, ev⟩ := numL_word (show numL w2 2 = true from b2)
  have a6 : a < 65536 := a6
  have v6 : v < 256 := v6
  have hA : numV ⟨w1.toArray⟩ = (a : Int) := by unfold numV; rw [ha]; rfl
  have hV : numV ⟨w2.toArray⟩ = (v : Int) := by unfold numV; rw [hv]; rfl
  have er : tkR 2 w2 (tkR 1 w1 (tkR 0 w0 zRc)) = ⟨d, a, v, false, false, 0, false, 0⟩ := by
    simp only [tkR, hd, hA, hV, zRc, Option.getD_some]
    congr 1 <;> omega
  rw [er] at s3
  obtain ⟨c3, rfl, f3⟩ := st3 rfl s3
  obtain ⟨c4, rfl, f4⟩ := st4 rfl s4
  obtain ⟨c5, p0, p1, rfl, f5⟩ := st5 rfl s5
  obtain ⟨c6, rfl, f6⟩ := st6 rfl s6
  obtain ⟨c7, m0, m1, rfl, f7⟩ := st7 rfl s7
  refine ⟨?_, ⟨d0, by show d ≤ 255; omega, by show (0 : Int) ≤ a; omega, by show (a : Int) ≤ 65535; omega, by show (0 : Int) ≤ v; omega, by show (v : Int) ≤ 255; omega, p0, by show c5 ≤ 255; omega, m0, by show c7 ≤ 255; omega⟩⟩
  rw [e0, e1, e2, f3, f4, f5, f6, f7, digL_word (by omega) hd]
  unfold restR endR
  simp only [Int.toNat_natCast, List.append_nil]
  rw [← ea, ← ev]
theorem st_must_ok (j : Nat) (r : Rc) (w : List UInt8) (l : List (List UInt8)) (h : tkB j w = true) : stR j r (w :: l) = some (tkR j w r, l) := by
  rw [stR_cons, if_pos h]
theorem rd_end (r : Rc) (g : Rr r) (hm : mayR r = true) : rdR 5 3 ⟨r.co, r.ad, r.da, false, false, 0, false, 0⟩ (endR r) = some (r, []) := by
  obtain ⟨m1, m2, m3, m4⟩ := (may_iff r).1 hm
  have p0 := g.p0
  have o0 := g.m0
  have hd : r.po ≠ 0 → digL [110, dig r.po] 110 1 7 = some r.po := fun h => digL_dig 110 1 7 r.po p0 (by omega) m2 (by omega)
  have n1 : digL [113] 110 1 7 = none := by decide
  have n2 : digL [112, 97, 117, 115, 101] 110 1 7 = none := by decide
  have n3 : digL [114, 101, 115, 101, 116] 110 1 7 = none := by decide
  have n4 : digL [108, 111, 97, 100] 110 1 7 = none := by decide
  obtain ⟨co, ad, da, re, wr, po, q, mo⟩ := r
  simp only at m3 o0 hd p0 m2
  unfold endR moW
  simp only
  by_cases h5 : po = 0
  · subst h5
    rcases (show mo = 0 ∨ mo = 1 ∨ mo = 2 ∨ mo = 3 by omega) with h7 | h7 | h7 | h7 <;> subst h7 <;> cases re <;> cases wr <;> cases q <;> simp [rdR, stR, tkB, tkR, wR, wW, wQ, wPause, wReset, wLoad, digL]
  · have hd := hd h5
    rcases (show mo = 0 ∨ mo = 1 ∨ mo = 2 ∨ mo = 3 by omega) with h7 | h7 | h7 | h7 <;> subst h7 <;> cases re <;> cases wr <;> cases q <;> simp [rdR, stR, tkB, tkR, h5, hd, wR, wW, wQ, wPause, wReset, wLoad]
theorem rd_back (r : Rc) (g : Rr r) (hm : mayR r = true) : rdR 8 0 zRc ([115, dig r.co] :: restR r) = some (r, []) := by
  obtain ⟨m1, m2, m3, m4⟩ := (may_iff r).1 hm
  have c0 := g.c0
  have a0 := g.a0
  have a1 := g.a1
  have v0 := g.d0
  have v1 := g.d1
  have hd := digL_dig 115 0 3 r.co c0 c0 m1 (by omega)
  obtain ⟨n1, n2⟩ := numL_hex 4 r.ad.toNat (by decide) (by show _ < 65536; omega)
  obtain ⟨k1, k2⟩ := numL_hex 2 r.da.toNat (by decide) (by show _ < 256; omega)
  unfold restR
  rw [rdR_succ, st_must_ok 0 _ _ _ (by show (digL _ 115 0 3).isSome = true; rw [hd]; rfl)]
  simp only
  rw [rdR_succ, st_must_ok 1 _ _ _ n1]
  simp only
  rw [rdR_succ, st_must_ok 2 _ _ _ k1]
  simp only
  have er : tkR 2 (hexL 2 r.da.toNat) (tkR 1 (hexL 4 r.ad.toNat) (tkR 0 [115, dig r.co] zRc)) = ⟨r.co, r.ad, r.da, false, false, 0, false, 0⟩ := by
    simp only [tkR, hd, n2, k2, zRc, Option.getD_some]
    congr 1 <;> omega
  rw [er]
  exact rd_end r g hm
/-- Read word by word it is the record whose line it is. -/
theorem read_is (line : List UInt8) : readL (splitW line) = recOf line := by
  cases hr : recOf line with
  | some r =>
    obtain ⟨h1, h2, h3⟩ := rec_some hr
    rw [← h1, (line_facts h3 h2).1]
    unfold readL
    rw [rd_back r h3 h2]
    simp [endL, h2]
  | none =>
    cases hl : readL (splitW line) with
    | none => rfl
    | some r =>
      exfalso
      unfold readL endL at hl
      split at hl
      · rename_i r' he
        split at hl
        · rename_i hm
          have e := Option.some.inj hl
          subst e
          obtain ⟨h1, h2⟩ := rd_line he
          obtain ⟨w, l, h3, h4⟩ := join_split line
          rw [h3] at h1
          have e1 : lineR r' = line := by
            rw [← h4]
            unfold lineR
            have := List.cons.inj h1
            rw [this.1, this.2]
          have := rec_line h2 hm
          rw [e1, hr] at this
          cases this
        · cases hl
      · cases hl
end Go.Proofs.YtoajmicdphffnabDoor

namespace Go.Proofs.YtoajmicdphffnabDoor
open Go Go.RowKit Go.Shelf
set_option linter.unusedVariables false
set_option maxHeartbeats 1000000
set_option maxRecDepth 20000

/-- What is read of a text from a line on, behind what was read. -/
def pst (t : List UInt8) (i : Nat) (out : List Rc) : List Rc × Int × Int :=
  if (parseGo (linesL t).1 i out).2.1 ≠ 0 then parseGo (linesL t).1 i out else if (linesL t).2 = [] then parseGo (linesL t).1 i out else ([], 90, (i : Int) + (linesL t).1.length + 1)
theorem parse_pst (t : List UInt8) (h : t.length ≤ 65536) : parseR t = pst t 0 [] := by
  unfold parseR pst
  rw [if_neg (by omega)]
  simp
theorem pst_nil (i : Nat) (out : List Rc) : pst [] i out = (out, 0, 0) := rfl
theorem lines_open (t : List UInt8) (h : ∀ b ∈ t, b ≠ 10) : linesL t = ([], t) := by
  induction t with
  | nil => rfl
  | cons b t ih => rw [linesL_cons, if_neg (h b (by simp)), ih (fun x hx => h x (by simp [hx]))]
theorem pst_open (t : List UInt8) (i : Nat) (out : List Rc) (h : ∀ b ∈ t, b ≠ 10) (hn : t ≠ []) : pst t i out = ([], 90, (i : Int) + 1) := by
  unfold pst
  rw [lines_open t h]
  simp [parseGo, hn]
theorem pst_line (w t : List UInt8) (i : Nat) (out : List Rc) (h : ∀ b ∈ w, b ≠ 10) : pst (w ++ 10 :: t) i out = match recOf w with | none => ([], 90, (i : Int) + 1) | some r => pst t (i + 1) (out ++ [r]) := by
  unfold pst
  rw [lines_word w t h]
  cases hr : recOf w with
  | none => simp [parseGo, hr]
  | some r =>
    have e : parseGo (w :: (linesL t).1) i out = parseGo (linesL t).1 (i + 1) (out ++ [r]) := by simp only [parseGo, hr]
    simp only [e, List.length_cons]
    split
    · rfl
    · split
      · rfl
      · congr 2
        push_cast
        omega
theorem idx10 (l : List UInt8) : (Lib.index l [10] = -1 ∧ ∀ b ∈ l, b ≠ 10) ∨ ∃ a b, l = a ++ 10 :: b ∧ (∀ x ∈ a, x ≠ 10) ∧ Lib.index l [10] = (a.length : Int) := by
  induction l with
  | nil => exact .inl ⟨rfl, fun b hb => by simp at hb⟩
  | cons c l ih =>
    by_cases hc : c = 10
    · subst hc
      exact .inr ⟨[], l, rfl, fun x hx => by simp at hx, by unfold Lib.index; rw [if_pos (by simp [List.isPrefixOf])]; rfl⟩
    · have hp : ¬ (([10] : List UInt8).isPrefixOf (c :: l)) = true := by simp [List.isPrefixOf]; exact fun e => hc e.symm
      have hi : Lib.index (c :: l) [10] = if Lib.index l [10] == -1 then -1 else Lib.index l [10] + 1 := by
        conv => lhs; unfold Lib.index
        rw [if_neg hp]
      rcases ih with ⟨h1, h2⟩ | ⟨a, b, h1, h2, h3⟩
      · refine .inl ⟨by rw [hi, h1]; rfl, fun x hx => ?_⟩
        rcases List.mem_cons.1 hx with e | e
        · rw [e]; exact hc
        · exact h2 x e
      · refine .inr ⟨c :: a, b, by rw [h1]; rfl, fun x hx => ?_, ?_⟩
        · rcases List.mem_cons.1 hx with e | e
          · rw [e]; exact hc
          · exact h2 x e
        · rw [hi, h3, if_neg (by simp)]
          simp
theorem cut10 (l : List UInt8) : ((∀ b ∈ l, b ≠ 10) ∧ Lib.cut l [10] = (l, [], false)) ∨ ∃ a b, l = a ++ 10 :: b ∧ (∀ x ∈ a, x ≠ 10) ∧ Lib.cut l [10] = (a, b, true) := by
  rcases idx10 l with ⟨h1, h2⟩ | ⟨a, b, h1, h2, h3⟩
  · exact .inl ⟨h2, by unfold Lib.cut; rw [h1, if_neg (by decide)]⟩
  · refine .inr ⟨a, b, h1, h2, ?_⟩
    unfold Lib.cut
    rw [h3, if_pos (by omega), Int.toNat_natCast, h1]
    simp
/-- The variable that Go's library looks at stands. -/
def Tq (w : World) : Prop := ∃ m, w.cell? ⟨1, 0, none⟩ = some (.int .i64 m)
theorem Tq.below {w y : World} (h : Tq w) (hb : Below w.heap.size w y) : Tq y := by
  obtain ⟨m, hm⟩ := h
  exact ⟨m, (hb.cell (p := ⟨1, 0, none⟩) (World.block_lt_of_cell? w _ hm)).trans hm⟩
/-- strings.Cut at a line feed. -/
theorem cutl_any (w : World) (tb : Tq w) (s : ByteArray) (hs : s.size ≤ 1000000) :
    Calls Tryd.prog 22 #[.string s, .string ⟨#[10]⟩] w fun e w' => ∃ a b f, e = .returned (.tuple #[.string a, .string b, .bool f]) ∧ Hid ((f = false ∧ a = s ∧ (∀ x ∈ strL s, x ≠ 10)) ∨ (f = true ∧ strL s = strL a ++ 10 :: strL b ∧ (∀ x ∈ strL a, x ≠ 10) ∧ a.size + b.size + 1 = s.size)) ∧ Hid (Below w.heap.size w w') := by
  obtain ⟨m, hm⟩ := tb
  refine (Tryd.strings_Cut s ⟨#[10]⟩ m w (by omega) hm).mono ?_
  rintro e w' ⟨rfl, n, rfl⟩
  refine ⟨_, _, _, rfl, ?_, ⟨rfl, rfl, rfl, Nat.le_refl _, fun _ _ => rfl⟩⟩
  rcases cut10 (strL s) with ⟨h1, h2⟩ | ⟨a, b, h1, h2, h3⟩
  · rw [show Lib.cut s.data.toList (ByteArray.mk #[10]).data.toList = _ from h2]
    exact .inl ⟨rfl, strL_mk s, h1⟩
  · rw [show Lib.cut s.data.toList (ByteArray.mk #[10]).data.toList = _ from h3]
    refine .inr ⟨rfl, by simpa [strL] using h1, by simpa [strL] using h2, ?_⟩
    have := congrArg List.length h1
    rw [strL_len] at this
    rw [this]
    show a.length + b.length + 1 = _
    simp
    omega
theorem split_lib (l : List UInt8) : Lib.splitK [32] 0 (Lib.count l [32]) l = splitW l := by
  have hne : ([32] : List UInt8) ≠ [] := by simp
  induction l with
  | nil => rfl
  | cons b l ih =>
    rw [splitW_cons]
    by_cases hb : b = 32
    · rw [if_pos hb]
      subst hb
      have hi : Lib.index (32 :: l) [32] = (0 : Nat) := by unfold Lib.index; rw [if_pos (by simp [List.isPrefixOf])]; rfl
      rw [Lib.count_hit hne hi, Nat.add_comm]
      unfold Lib.splitK
      rw [hi, if_neg (by decide)]
      show [] :: Lib.splitK [32] 0 (Lib.count l [32]) l = _
      rw [ih]
    · rw [if_neg hb]
      have hp : ¬ (([32] : List UInt8).isPrefixOf (b :: l)) = true := by simp [List.isPrefixOf]; exact fun e => hb e.symm
      have hi : Lib.index (b :: l) [32] = if Lib.index l [32] == -1 then -1 else Lib.index l [32] + 1 := by conv => lhs; unfold Lib.index
                                                                                                            rw [if_neg hp]
      by_cases hm : Lib.index l [32] = -1
      · rw [if_pos (beq_iff_eq.2 hm)] at hi
        rw [Lib.count_miss hm] at ih
        rw [Lib.count_miss hi, ← ih]
        rfl
      · rw [if_neg (fun e => hm (beq_iff_eq.1 e))] at hi
        have hg := Lib.index_ge l [32]
        obtain ⟨i, hj⟩ : ∃ i : Nat, Lib.index l [32] = i := ⟨(Lib.index l [32]).toNat, by omega⟩
        rw [hj] at hi
        have hi' : Lib.index (b :: l) [32] = ((i + 1 : Nat) : Int) := by rw [hi]; rfl
        rw [Lib.count_hit hne hj, Nat.add_comm] at ih
        rw [Lib.count_hit hne hi', Nat.add_comm]
        unfold Lib.splitK at ih ⊢
        rw [hj, if_neg (by simp)] at ih
        rw [hi', if_neg (by simp; omega), ← ih]
        rfl
theorem split_bytes (s : ByteArray) : (Lib.splitB ⟨#[32]⟩ 0 (Lib.countB s ⟨#[32]⟩) s).map (·.data.toList) = splitW s.data.toList := by
  rw [Lib.splitB_data]
  exact split_lib s.data.toList
theorem split_any (w : World) (tb : Tq w) (s : ByteArray) (hs : s.size ≤ 1000000) :
    Calls Tryd.prog 55 #[.string s, .string ⟨#[32]⟩] w fun e w' => ∃ ws : List ByteArray, e = .returned (.slice (some ⟨w.heap.size, 0, none⟩) ws.length ws.length) ∧ w' = w.alloc (.cells (ws.map Value.string).toArray 9) ∧ ws.map strL = splitW (strL s) := by
  obtain ⟨m, hm⟩ := tb
  refine (Tryd.strings_Split s ⟨#[32]⟩ m w (by omega) hm (by decide)).mono ?_
  rintro e w' ⟨rfl, rfl⟩
  have hd := split_bytes s
  have hl : (Lib.splitB ⟨#[32]⟩ 0 (Lib.countB s ⟨#[32]⟩) s).length = Lib.countB s ⟨#[32]⟩ + 1 := by
    have h1 := congrArg List.length hd
    rw [List.length_map] at h1
    rw [h1]
    have key : ∀ l : List UInt8, (splitW l).length = Lib.count l [32] + 1 := by
      intro l
      have hne : ([32] : List UInt8) ≠ [] := by simp
      rw [← split_lib l]
      have gen : ∀ (f : Nat) (l : List UInt8), l.length < f → (Lib.splitK [32] 0 (Lib.count l [32]) l).length = Lib.count l [32] + 1 := by
        intro f
        induction f with
        | zero => intro l h; omega
        | succ f ih =>
          intro l h
          by_cases hm : Lib.index l [32] = -1
          · rw [Lib.count_miss hm]; rfl
          · have hg := Lib.index_ge l [32]
            obtain ⟨i, hj⟩ : ∃ i : Nat, Lib.index l [32] = i := ⟨(Lib.index l [32]).toNat, by omega⟩
            have hr := Lib.index_room l [32] (by omega)
            rw [Lib.count_hit hne hj, Nat.add_comm 1]
            unfold Lib.splitK
            rw [if_neg (by rw [hj]; simp), hj, Int.toNat_natCast, List.length_cons, ih _ (by rw [List.length_drop]; simp at hr ⊢; omega)]
      exact gen _ l (Nat.lt_succ_self _)
    exact key _
  exact ⟨Lib.splitB ⟨#[32]⟩ 0 (Lib.countB s ⟨#[32]⟩) s, by rw [hl], rfl, hd⟩
end Go.Proofs.YtoajmicdphffnabDoor
