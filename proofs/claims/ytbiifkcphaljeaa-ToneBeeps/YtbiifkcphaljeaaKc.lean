/- A trace as bytes, and back. -/
import Derived.Test.YtbiifkcphaljeaaKb
namespace Go.Proofs.Ytbiifkcphaljeaa
open Go Go.RowKit
set_option linter.unusedVariables false
set_option maxHeartbeats 400000

def bi (b : Bool) : Int := if b then 1 else 0
def farR (r : Rc) (next : Int) : Bool := decide (r.ad ≠ next) || decide (r.po ≠ 0)
/-- A record's first byte, behind an address. -/
def headR (r : Rc) (next : Int) : Int := r.co + 32 * r.mo + 4 * bi r.re + 8 * bi r.wr + 16 * bi r.q + 128 * bi (farR r next)
def byN (n : Int) : UInt8 := UInt8.ofNat n.toNat
theorem byN_nat (n : Int) (h0 : 0 ≤ n) (h1 : n ≤ 255) : ((byN n).toNat : Int) = n := by
  unfold byN
  simp only [UInt8.toNat_ofNat', Nat.reducePow]
  omega
theorem byN_back (b : UInt8) : byN (b.toNat : Int) = b := by unfold byN; simp
def bytesR (r : Rc) (next : Int) : List UInt8 := byN (headR r next) :: ((if farR r next then [byN r.po, byN (r.ad % 256), byN (r.ad / 256)] else []) ++ [byN r.da])
def packGo : List Rc → Int → List UInt8
  | [], _ => []
  | r :: l, next => bytesR r next ++ packGo l ((r.ad + 1) % 65536)
def begP (n : Int) : List UInt8 := [86, 84, 82, 49, byN (n % 256), byN (n / 256 % 256), byN (n / 65536 % 256), byN (n / 16777216)]
def packR (l : List Rc) : List UInt8 := begP l.length ++ packGo l 0
def packB (l : List Rc) : List UInt8 := if checkR l = 0 then packR l else []
/-- The record that a head, a port, an address and a byte are. -/
def recH (h p a d : Int) : Rc := ⟨h % 4, a, d, decide (h / 4 % 2 = 1), decide (h / 8 % 2 = 1), p, decide (h / 16 % 2 = 1), h / 32 % 4⟩
def okH (r : Rc) (next : Int) (h : Int) : Bool := mayR r && decide (headR r next = h)
def oneR (l : List UInt8) (next : Int) : Option (Rc × Nat) := match l with
  | [] => none
  | h :: t => if 128 ≤ h.toNat then match t with
      | p :: a :: b :: d :: _ => if okH (recH h.toNat p.toNat ((a.toNat : Int) + 256 * b.toNat) d.toNat) next h.toNat then some (recH h.toNat p.toNat ((a.toNat : Int) + 256 * b.toNat) d.toNat, 5) else none
      | _ => none
    else match t with
      | d :: _ => if okH (recH h.toNat 0 next d.toNat) next h.toNat then some (recH h.toNat 0 next d.toNat, 2) else none
      | [] => none
def unpackGo : Nat → Nat → Int → List UInt8 → List Rc → List Rc × Int × Int
  | 0, at', _, l, out => if l = [] then (out, 0, 0) else ([], 91, (at' : Int))
  | n + 1, at', next, l, out => match oneR l next with
    | none => ([], 91, (at' : Int))
    | some (r, k) => unpackGo n (at' + k) ((r.ad + 1) % 65536) (l.drop k) (out ++ [r])
def manyP (b : List UInt8) : Int := ((b.getD 4 0).toNat : Int) + 256 * (b.getD 5 0).toNat + 65536 * (b.getD 6 0).toNat + 16777216 * (b.getD 7 0).toNat
def unpackR (b : List UInt8) : List Rc × Int × Int :=
  if b.length < 8 ∨ b.take 4 ≠ [86, 84, 82, 49] then ([], 91, 0) else if 4194304 < manyP b then ([], 91, 0) else unpackGo (manyP b).toNat 8 0 (b.drop 8) []
theorem bi_two (b : Bool) : 0 ≤ bi b ∧ bi b ≤ 1 ∧ (bi b = 1 ↔ b = true) := by cases b <;> simp [bi]
theorem head_parts {r : Rc} (g : Rr r) (hm : mayR r = true) (next : Int) : 0 ≤ headR r next ∧ headR r next ≤ 255 ∧ headR r next % 4 = r.co ∧ headR r next / 32 % 4 = r.mo ∧ decide (headR r next / 4 % 2 = 1) = r.re ∧ decide (headR r next / 8 % 2 = 1) = r.wr ∧ decide (headR r next / 16 % 2 = 1) = r.q ∧ (128 ≤ headR r next ↔ farR r next = true) := by
  obtain ⟨m1, m2, m3, m4⟩ := (may_iff r).1 hm
  have h1 := bi_two r.re
  have h2 := bi_two r.wr
  have h3 := bi_two r.q
  have h4 := bi_two (farR r next)
  have c0 := g.c0
  have m0 := g.m0
  unfold headR
  generalize bi r.re = a at h1
  generalize bi r.wr = b at h2
  generalize bi r.q = c at h3
  generalize bi (farR r next) = d at h4
  refine ⟨by omega, by omega, by omega, by omega, ?_, ?_, ?_, ?_⟩
  · rw [Bool.eq_iff_iff, decide_eq_true_iff, ← h1.2.2]; omega
  · rw [Bool.eq_iff_iff, decide_eq_true_iff, ← h2.2.2]; omega
  · rw [Bool.eq_iff_iff, decide_eq_true_iff, ← h3.2.2]; omega
  · rw [← h4.2.2]; omega
theorem far_no {r : Rc} {next : Int} (h : farR r next = false) : r.ad = next ∧ r.po = 0 := by
  unfold farR at h
  simpa using h
theorem one_bytes {r : Rc} (g : Rr r) (hm : mayR r = true) (next : Int) (rest : List UInt8) : oneR (bytesR r next ++ rest) next = some (r, (bytesR r next).length) := by
  obtain ⟨h0, h1, e1, e2, e3, e4, e5, e6⟩ := head_parts g hm next
  have hb := byN_nat (headR r next) h0 h1
  have hd := byN_nat r.da g.d0 g.d1
  have hp := byN_nat r.po g.p0 g.p1
  have ha := byN_nat (r.ad % 256) (by omega) (by omega)
  have hA := byN_nat (r.ad / 256) (by have := g.a0; omega) (by have := g.a1; omega)
  have hr : ∀ p a, p = r.po → a = r.ad → recH (headR r next) p a r.da = r := by
    intro p a hp ha
    unfold recH
    rw [e1, e2, e3, e4, e5, hp, ha]
  have ok : okH r next (headR r next) = true := by simp [okH, hm]
  unfold bytesR
  cases hf : farR r next
  · obtain ⟨f1, f2⟩ := far_no hf
    have hl : ¬ 128 ≤ (byN (headR r next)).toNat := fun h => by have := e6.1 (by omega); rw [hf] at this; cases this
    simp only [Bool.false_eq_true, if_false, List.nil_append, List.cons_append, oneR]
    rw [if_neg hl, hb, hd, hr 0 next f2.symm f1.symm, if_pos ok]
    rfl
  · have hl : 128 ≤ (byN (headR r next)).toNat := by have := e6.2 hf; omega
    simp only [if_true, List.cons_append, List.nil_append, oneR]
    rw [if_pos hl, hb, hd, hp, ha, hA, hr r.po _ rfl (by omega), if_pos ok]
    rfl
theorem recH_range (h p a d : Int) (p0 : 0 ≤ p) (p1 : p ≤ 255) (a0 : 0 ≤ a) (a1 : a ≤ 65535) (d0 : 0 ≤ d) (d1 : d ≤ 255) : Rr (recH h p a d) := ⟨by simp only [recH]; omega, by simp only [recH]; omega, a0, a1, d0, d1, p0, p1, by simp only [recH]; omega, by simp only [recH]; omega⟩
theorem one_some {l : List UInt8} {next : Int} {r : Rc} {k : Nat} (n0 : 0 ≤ next) (n1 : next ≤ 65535) (h : oneR l next = some (r, k)) : l = bytesR r next ++ l.drop k ∧ mayR r = true ∧ Rr r ∧ k ≤ l.length ∧ 2 ≤ k ∧ k ≤ 5 := by
  cases l with
  | nil => cases h
  | cons x t =>
    have bx : ∀ b : UInt8, (b.toNat : Int) ≤ 255 ∧ 0 ≤ (b.toNat : Int) := fun b => by have := UInt8.toNat_lt b; omega
    simp only [oneR] at h
    split at h
    · rename_i hbig
      split at h
      · rename_i p a b d t'
        split at h
        · rename_i hok
          have e := Option.some.inj h
          have er : recH x.toNat p.toNat ((a.toNat : Int) + 256 * b.toNat) d.toNat = r := congrArg Prod.fst e
          have ek : 5 = k := congrArg Prod.snd e
          simp only [okH, Bool.and_eq_true, decide_eq_true_eq] at hok
          have g : Rr (recH x.toNat p.toNat ((a.toNat : Int) + 256 * b.toNat) d.toNat) := recH_range _ _ _ _ (bx p).2 (bx p).1 (by omega) (by have := (bx a).1; have := (bx b).1; omega) (bx d).2 (bx d).1
          rw [er] at hok g
          subst ek
          refine ⟨?_, hok.1, g, by simp, by omega, by omega⟩
          have hf : farR r next = true := (head_parts g hok.1 next).2.2.2.2.2.2.2.1 (by rw [hok.2]; omega)
          have ea : r.ad = (a.toNat : Int) + 256 * b.toNat := by rw [← er]; rfl
          have ep : r.po = (p.toNat : Int) := by rw [← er]; rfl
          have ed : r.da = (d.toNat : Int) := by rw [← er]; rfl
          unfold bytesR
          rw [hok.2, hf, byN_back, ep, byN_back, ed, byN_back, ea, show ((a.toNat : Int) + 256 * b.toNat) % 256 = a.toNat by have := (bx a).1; omega, show ((a.toNat : Int) + 256 * b.toNat) / 256 = b.toNat by have := (bx a).1; omega, byN_back, byN_back]
          rfl
        · cases h
      · cases h
    · rename_i hbig
      split at h
      · rename_i d t'
        split at h
        · rename_i hok
          have e := Option.some.inj h
          have er : recH x.toNat 0 next d.toNat = r := congrArg Prod.fst e
          have ek : 2 = k := congrArg Prod.snd e
          simp only [okH, Bool.and_eq_true, decide_eq_true_eq] at hok
          have g : Rr (recH x.toNat 0 next d.toNat) := recH_range _ _ _ _ (by decide) (by decide) n0 n1 (bx d).2 (bx d).1
          rw [er] at hok g
          subst ek
          refine ⟨?_, hok.1, g, by simp, by omega, by omega⟩
          have hf : farR r next = false := by
            cases hh : farR r next
            · rfl
            · have := (head_parts g hok.1 next).2.2.2.2.2.2.2.2 hh
              rw [hok.2] at this
              omega
          have ed : r.da = (d.toNat : Int) := by rw [← er]; rfl
          unfold bytesR
          rw [hok.2, hf, byN_back, ed, byN_back]
          rfl
        · cases h
      · cases h
theorem unpack_go (l : List Rc) : ∀ (at' : Nat) (next : Int) (out : List Rc), AllG l → allM l = true → unpackGo l.length at' next (packGo l next) out = (out ++ l, 0, 0) := by
  induction l with
  | nil => intro at' next out _ _; simp [unpackGo, packGo]
  | cons r l ih =>
    intro at' next out h hm
    rw [allM_cons, Bool.and_eq_true] at hm
    simp only [List.length_cons, packGo, unpackGo, one_bytes (h r (by simp)) hm.1, List.drop_left]
    rw [ih _ _ _ (fun t ht => h t (by simp [ht])) hm.2, List.append_assoc]
    rfl
theorem beg_many (n : Nat) (h : n ≤ 4194304) (t : List UInt8) : manyP (begP n ++ t) = n ∧ (begP n ++ t).take 4 = [86, 84, 82, 49] ∧ (begP n ++ t).drop 8 = t ∧ 8 ≤ (begP n ++ t).length := by
  refine ⟨?_, rfl, rfl, by simp [begP]⟩
  simp only [begP, manyP, List.cons_append, List.nil_append, List.getD_cons_succ, List.getD_cons_zero]
  rw [byN_nat _ (by omega) (by omega), byN_nat _ (by omega) (by omega), byN_nat _ (by omega) (by omega), byN_nat _ (by omega) (by omega)]
  omega
/-- What is packed is unpacked as it was. -/
theorem unpack_pack (l : List Rc) (h : AllG l) (hc : checkR l = 0) : unpackR (packR l) = (l, 0, 0) := by
  obtain ⟨k1, k2⟩ := check_ok hc
  obtain ⟨b1, b2, b3, b4⟩ := beg_many l.length k1 (packGo l 0)
  unfold unpackR packR
  rw [if_neg (fun h => h.elim (fun h => absurd b4 (by omega)) (fun h => h b2)), b1, if_neg (by omega), b3, Int.toNat_natCast, unpack_go l 8 0 [] h k2]
  rfl
theorem unpack_back (n : Nat) : ∀ (at' : Nat) (next : Int) (l : List UInt8) (out m : List Rc) (a : Int), 0 ≤ next → next ≤ 65535 → unpackGo n at' next l out = (m, 0, a) → a = 0 ∧ ∃ x, m = out ++ x ∧ AllG x ∧ allM x = true ∧ packGo x next = l ∧ x.length = n := by
  induction n with
  | zero =>
    intro at' next l out m a n0 n1 h
    simp only [unpackGo] at h
    split at h
    · rename_i hl
      cases h
      exact ⟨rfl, [], by simp, fun s hs => by simp at hs, rfl, hl.symm, rfl⟩
    · cases h
  | succ n ih =>
    intro at' next l out m a n0 n1 h
    simp only [unpackGo] at h
    split at h
    · cases h
    · rename_i r k hr
      obtain ⟨h0, x, e1, e2, e3, e4, e5⟩ := ih _ _ _ _ _ _ (by omega) (by omega) h
      obtain ⟨l1, l2, l3, _⟩ := one_some n0 n1 hr
      refine ⟨h0, r :: x, by rw [e1]; simp, fun t ht => ?_, by rw [allM_cons, l2, e3]; rfl, by simp only [packGo, e4]; exact l1.symm, by simp [e5]⟩
      rcases List.mem_cons.1 ht with rfl | ht
      · exact l3
      · exact e2 t ht
theorem beg_back (b : List UInt8) (h8 : ¬ b.length < 8) (h4 : b.take 4 = [86, 84, 82, 49]) : b = begP (manyP b) ++ b.drop 8 := by
  match b, h8, h4 with
  | a0 :: a1 :: a2 :: a3 :: a4 :: a5 :: a6 :: a7 :: t, _, h4 =>
    simp only [List.take_succ_cons, List.take_zero, List.cons.injEq, and_true] at h4
    obtain ⟨rfl, rfl, rfl, rfl⟩ := h4
    have bx : ∀ b : UInt8, (b.toNat : Int) ≤ 255 := fun b => by have := UInt8.toNat_lt b; omega
    have b4 := bx a4
    have b5 := bx a5
    have b6 := bx a6
    simp only [begP, manyP, List.getD_cons_succ, List.getD_cons_zero, List.drop_succ_cons, List.drop_zero, List.cons_append, List.nil_append]
    rw [show ((a4.toNat : Int) + 256 * a5.toNat + 65536 * a6.toNat + 16777216 * a7.toNat) % 256 = a4.toNat by omega, show ((a4.toNat : Int) + 256 * a5.toNat + 65536 * a6.toNat + 16777216 * a7.toNat) / 256 % 256 = a5.toNat by omega, show ((a4.toNat : Int) + 256 * a5.toNat + 65536 * a6.toNat + 16777216 * a7.toNat) / 65536 % 256 = a6.toNat by omega, show ((a4.toNat : Int) + 256 * a5.toNat + 65536 * a6.toNat + 16777216 * a7.toNat) / 16777216 = a7.toNat by omega, byN_back, byN_back, byN_back, byN_back]
  | [], h8, _ => exact absurd (by simp) h8
  | [_], h8, _ => exact absurd (by simp) h8
  | [_, _], h8, _ => exact absurd (by simp) h8
  | [_, _, _], h8, _ => exact absurd (by simp) h8
  | [_, _, _, _], h8, _ => exact absurd (by simp) h8
  | [_, _, _, _, _], h8, _ => exact absurd (by simp) h8
  | [_, _, _, _, _, _], h8, _ => exact absurd (by simp) h8
  | [_, _, _, _, _, _, _], h8, _ => exact absurd (by simp) h8
theorem many_lo (b : List UInt8) : 0 ≤ manyP b := by unfold manyP; omega
/-- What is unpacked is packed as it was. -/
theorem pack_unpack (b : List UInt8) (m : List Rc) (a : Int) (h : unpackR b = (m, 0, a)) : a = 0 ∧ AllG m ∧ checkR m = 0 ∧ packR m = b ∧ m.length ≤ 4194304 := by
  unfold unpackR at h
  split at h
  · cases h
  · rename_i h1
    split at h
    · cases h
    · rename_i h2
      obtain ⟨h0, x, e1, e2, e3, e4, e5⟩ := unpack_back _ _ _ _ _ _ _ (by decide) (by decide) h
      rw [List.nil_append] at e1
      subst e1
      have hb := many_lo b
      have hl : (m.length : Int) = manyP b := by omega
      refine ⟨h0, e2, ?_, ?_, by omega⟩
      · unfold checkR
        rw [if_neg (by omega), if_pos e3]
      · unfold packR
        rw [e4, hl]
        exact (beg_back b (fun h => h1 (.inl h)) (Decidable.of_not_not fun h => h1 (.inr h))).symm
theorem go_bad (n : Nat) : ∀ (at' : Nat) (next : Int) (l : List UInt8) (out m : List Rc) (e a : Int), 0 ≤ next → next ≤ 65535 → unpackGo n at' next l out = (m, e, a) → e ≠ 0 → m = [] ∧ 0 ≤ a ∧ a ≤ at' + l.length := by
  induction n with
  | zero =>
    intro at' next l out m e a n0 n1 h he
    simp only [unpackGo] at h
    split at h
    · cases h; exact absurd rfl he
    · cases h; exact ⟨rfl, by omega, by omega⟩
  | succ n ih =>
    intro at' next l out m e a n0 n1 h he
    simp only [unpackGo] at h
    split at h
    · cases h; exact ⟨rfl, by omega, by omega⟩
    · rename_i r k hr
      obtain ⟨_, _, _, hk, _⟩ := one_some n0 n1 hr
      obtain ⟨h1, h2, h3⟩ := ih _ _ _ _ _ _ _ (by omega) (by omega) h he
      rw [List.length_drop] at h3
      exact ⟨h1, h2, by omega⟩
theorem unpack_bad (b : List UInt8) (m : List Rc) (e a : Int) (h : unpackR b = (m, e, a)) (he : e ≠ 0) : m = [] ∧ 0 ≤ a ∧ a ≤ b.length := by
  unfold unpackR at h
  split at h
  · cases h; exact ⟨rfl, Int.le_refl _, by omega⟩
  · rename_i h1
    split at h
    · cases h; exact ⟨rfl, Int.le_refl _, by omega⟩
    · obtain ⟨k1, k2, k3⟩ := go_bad _ _ _ _ _ _ _ _ (by decide) (by decide) h he
      rw [List.length_drop] at k3
      exact ⟨k1, k2, by omega⟩
theorem unpack_len (b : List UInt8) (m : List Rc) (e a : Int) (h : unpackR b = (m, e, a)) : m.length ≤ 4194304 := by
  by_cases he : e = 0
  · subst he; exact (pack_unpack b m a h).2.2.2.2
  · rw [(unpack_bad b m e a h he).1]; simp
end Go.Proofs.Ytbiifkcphaljeaa
