/- Scripts as plain lists of spans: what each goes through, cut in two, with as few spans as may be. -/
import Derived.Test.YtdfjfacilbahkaaDoorGn
namespace Go.Proofs.YtdfjfacilbahkaaDoor
set_option linter.unusedVariables false
set_option maxHeartbeats 400000

/-- What a span says besides its cycles. -/
structure At where
  Ke : Int
  Ta : Bool
  Fl : Bool
  DI : Bool
  DO : Bool
  In : Bool
  Cl : Bool
  Wa : Bool
  Bu : Int
structure Sn where
  c : Int
  a : At
def atB (x y : At) : Bool := x.Ke == y.Ke && x.Ta == y.Ta && x.Fl == y.Fl && x.DI == y.DI && x.DO == y.DO && x.In == y.In && x.Cl == y.Cl && x.Wa == y.Wa && x.Bu == y.Bu
theorem atB_iff (x y : At) : atB x y = true ↔ x = y := by
  cases x
  cases y
  simp [atB, and_assoc]
theorem atB_self (x : At) : atB x x = true := (atB_iff x x).2 rfl
theorem atB_ne {x y : At} (h : atB x y = false) : x ≠ y := fun e => by subst e; rw [atB_self] at h; cases h

/-- The cycles, one by one. -/
def expand : List Sn → List At
  | [] => []
  | s :: l => List.replicate s.c.toNat s.a ++ expand l
theorem expand_app (l r : List Sn) : expand (l ++ r) = expand l ++ expand r := by
  induction l with
  | nil => rfl
  | cons s l ih => simp only [List.cons_append, expand, ih, List.append_assoc]
def Pos : List Sn → Prop
  | [] => True
  | s :: l => 1 ≤ s.c ∧ Pos l
theorem Pos.app {l r : List Sn} (h : Pos l) (k : Pos r) : Pos (l ++ r) := by
  induction l with
  | nil => exact k
  | cons s l ih => exact ⟨h.1, ih h.2⟩
/-- How many cycles. -/
def sumC : List Sn → Int
  | [] => 0
  | s :: l => s.c + sumC l
theorem sumC_app (l r : List Sn) : sumC (l ++ r) = sumC l + sumC r := by
  induction l with
  | nil => simp [sumC]
  | cons s l ih => simp only [List.cons_append, sumC, ih]; omega
theorem sumC_nonneg {l : List Sn} (h : Pos l) : 0 ≤ sumC l := by
  induction l with
  | nil => exact Int.le_refl _
  | cons s l ih => have := ih h.2; have := h.1; simp only [sumC]; omega

/-- Cut in two. -/
def cutA : List Sn → Int → List Sn
  | [], _ => []
  | s :: l, n => (if 0 < min n s.c then [⟨min n s.c, s.a⟩] else []) ++ cutA l (n - min n s.c)
def cutB : List Sn → Int → List Sn
  | [], _ => []
  | s :: l, n => (if min n s.c < s.c then [⟨s.c - min n s.c, s.a⟩] else []) ++ cutB l (n - min n s.c)
theorem cutA_zero {l : List Sn} (h : Pos l) : cutA l 0 = [] := by
  induction l with
  | nil => rfl
  | cons s l ih =>
    have h1 := h.1
    have e : min 0 s.c = 0 := by omega
    simp only [cutA, e, Int.sub_zero, ih h.2]
    rfl
theorem cutB_zero {l : List Sn} (h : Pos l) : cutB l 0 = l := by
  induction l with
  | nil => rfl
  | cons s l ih =>
    have h1 := h.1
    have e : min 0 s.c = 0 := by omega
    simp only [cutB, e, Int.sub_zero, ih h.2]
    rw [if_pos (by omega)]
    rfl
theorem replicate_add {α : Type} (n m : Nat) (x : α) : List.replicate n x ++ List.replicate m x = List.replicate (n + m) x := List.replicate_append_replicate
theorem cut_expand {l : List Sn} (h : Pos l) (n : Int) (hn : 0 ≤ n) : expand (cutA l n) ++ expand (cutB l n) = expand l := by
  induction l generalizing n with
  | nil => rfl
  | cons s l ih =>
    have h1 := h.1
    by_cases hc : n < s.c
    · have e : min n s.c = n := by omega
      simp only [cutA, cutB, e, Int.sub_self, cutA_zero h.2, cutB_zero h.2, List.append_nil]
      rw [if_pos hc]
      simp only [List.cons_append, List.nil_append, expand]
      rw [← List.append_assoc]
      congr 1
      by_cases h0 : 0 < n
      · rw [if_pos h0]
        simp only [expand, List.append_nil]
        rw [replicate_add]
        congr 1
        omega
      · rw [if_neg h0]
        simp only [expand, List.nil_append]
        congr 1
        omega
    · have e : min n s.c = s.c := by omega
      simp only [cutA, cutB, e]
      rw [if_pos (by omega), if_neg (by omega)]
      simp only [List.cons_append, List.nil_append, expand, List.append_assoc]
      rw [ih h.2 _ (by omega)]
theorem cutA_sum {l : List Sn} (h : Pos l) (n : Int) (hn : 0 ≤ n) (hs : n ≤ sumC l) : sumC (cutA l n) = n := by
  induction l generalizing n with
  | nil => simp only [sumC] at hs; simp only [cutA, sumC]; omega
  | cons s l ih =>
    have h1 := h.1
    simp only [sumC] at hs
    simp only [cutA]
    rw [sumC_app, ih h.2 _ (by omega) (by have := sumC_nonneg h.2; omega)]
    split
    · simp only [sumC]; omega
    · simp only [sumC]; omega
/-- Each span has 1 to M cycles. -/
def InM (M : Int) : List Sn → Prop
  | [] => True
  | s :: l => (1 ≤ s.c ∧ s.c ≤ M) ∧ InM M l
theorem InM.pos {M : Int} {l : List Sn} (h : InM M l) : Pos l := by
  induction l with
  | nil => trivial
  | cons s l ih => exact ⟨h.1.1, ih h.2⟩
theorem InM.app {M : Int} {l r : List Sn} (h : InM M l) (k : InM M r) : InM M (l ++ r) := by
  induction l with
  | nil => exact k
  | cons s l ih => exact ⟨h.1, ih h.2⟩
theorem cutA_in {M : Int} {l : List Sn} (h : InM M l) (n : Int) (hn : 0 ≤ n) : InM M (cutA l n) ∧ (cutA l n).length ≤ l.length := by
  induction l generalizing n with
  | nil => exact ⟨trivial, Nat.le_refl _⟩
  | cons s l ih =>
    have h1 := h.1
    obtain ⟨i1, i2⟩ := ih h.2 (n - min n s.c) (by omega)
    simp only [cutA]
    split
    · exact ⟨⟨⟨by show 1 ≤ min n s.c; omega, by show min n s.c ≤ M; omega⟩, i1⟩, by simp; omega⟩
    · exact ⟨i1, by simp; omega⟩
theorem cutB_in {M : Int} {l : List Sn} (h : InM M l) (n : Int) (hn : 0 ≤ n) : InM M (cutB l n) ∧ (cutB l n).length ≤ l.length := by
  induction l generalizing n with
  | nil => exact ⟨trivial, Nat.le_refl _⟩
  | cons s l ih =>
    have h1 := h.1
    obtain ⟨i1, i2⟩ := ih h.2 (n - min n s.c) (by omega)
    simp only [cutB]
    split
    · exact ⟨⟨⟨by show 1 ≤ s.c - min n s.c; omega, by show s.c - min n s.c ≤ M; omega⟩, i1⟩, by simp; omega⟩
    · exact ⟨i1, by simp; omega⟩

/-- T cycles that are alike, as full spans and one of the rest. -/
def emitN (M : Nat) (a : At) : Nat → Nat → List Sn
  | 0, _ => []
  | f + 1, n => if n = 0 then [] else ⟨(min n M : Nat), a⟩ :: emitN M a f (n - min n M)
def emit (M : Nat) (a : At) (n : Nat) : List Sn := emitN M a n n
/-- As few spans as may be: what is gathered so far, and what comes. -/
def nrm (M : Nat) : Option (At × Nat) → List Sn → List Sn
  | none, [] => []
  | some (a, n), [] => emit M a n
  | none, s :: l => nrm M (some (s.a, s.c.toNat)) l
  | some (a, n), s :: l => if atB a s.a then nrm M (some (a, n + s.c.toNat)) l else emit M a n ++ nrm M (some (s.a, s.c.toNat)) l
def heldE : Option (At × Nat) → List At
  | none => []
  | some (a, n) => List.replicate n a
theorem emitN_expand (M : Nat) (hM : 0 < M) (a : At) : ∀ f n, n ≤ f → expand (emitN M a f n) = List.replicate n a := by
  intro f
  induction f with
  | zero => intro n hn; have : n = 0 := by omega
            subst this; rfl
  | succ f ih =>
    intro n hn
    unfold emitN
    split
    · rename_i h; subst h; rfl
    · simp only [expand]
      rw [ih (n - min n M) (by omega), show (((min n M : Nat)) : Int).toNat = min n M by omega, replicate_add]
      congr 1
      omega
theorem nrm_expand (M : Nat) (hM : 0 < M) (l : List Sn) : ∀ o, expand (nrm M o l) = heldE o ++ expand l := by
  induction l with
  | nil =>
    intro o
    cases o with
    | none => rfl
    | some p => obtain ⟨a, n⟩ := p; simp only [nrm, heldE, expand, List.append_nil]; exact emitN_expand M hM a n n (Nat.le_refl _)
  | cons s l ih =>
    intro o
    cases o with
    | none => simp only [nrm, ih, heldE, expand, List.nil_append]
    | some p =>
      obtain ⟨a, n⟩ := p
      simp only [nrm]
      split
      · rename_i h
        have e := (atB_iff _ _).1 h
        rw [ih]
        simp only [heldE, expand]
        rw [← e, ← List.append_assoc, replicate_add]
      · rw [expand_app, ih]
        simp only [heldE, expand]
        rw [show expand (emit M a n) = List.replicate n a from emitN_expand M hM a n n (Nat.le_refl _)]
/-- Neighbours are unlike, or the first one is full. -/
def Nf (M : Nat) : List Sn → Prop
  | [] => True
  | s :: l => (1 ≤ s.c ∧ s.c ≤ M) ∧ (match l with | [] => True | t :: _ => s.a = t.a → s.c = M) ∧ Nf M l
theorem Nf.inM {M : Nat} {l : List Sn} (h : Nf M l) : InM M l := by
  induction l with
  | nil => trivial
  | cons s l ih => exact ⟨h.1, ih h.2.2⟩
/-- The first span's kind. -/
def headA : List Sn → Option At
  | [] => none
  | s :: _ => some s.a
theorem emitN_nf (M : Nat) (hM : 0 < M) (a : At) (r : List Sn) (hr : Nf M r) (hh : headA r ≠ some a) : ∀ f n, n ≤ f → 0 < n → Nf M (emitN M a f n ++ r) ∧ headA (emitN M a f n ++ r) = some a := by
  intro f
  induction f with
  | zero => intro n hn h0; omega
  | succ f ih =>
    intro n hn h0
    unfold emitN
    rw [if_neg (by omega)]
    refine ⟨?_, rfl⟩
    by_cases hb : n ≤ M
    · have e : n - min n M = 0 := by omega
      rw [e]
      have e0 : emitN M a f 0 = [] := by cases f <;> simp [emitN]
      rw [e0]
      simp only [List.cons_append, List.nil_append]
      refine ⟨⟨by show 1 ≤ ((min n M : Nat) : Int); omega, by show ((min n M : Nat) : Int) ≤ M; omega⟩, ?_, hr⟩
      cases r with
      | nil => trivial
      | cons t r => exact fun e => absurd (by show some t.a = some a; rw [← e]) hh
    · obtain ⟨i1, i2⟩ := ih (n - min n M) (by omega) (by omega)
      simp only [List.cons_append]
      refine ⟨⟨by show 1 ≤ ((min n M : Nat) : Int); omega, by show ((min n M : Nat) : Int) ≤ M; omega⟩, ?_, i1⟩
      have hf : ((min n M : Nat) : Int) = M := by omega
      split
      · trivial
      · exact fun _ => hf
theorem nrm_nf (M : Nat) (hM : 0 < M) (l : List Sn) (hl : Pos l) : (∀ a n, 0 < n → Nf M (nrm M (some (a, n)) l) ∧ headA (nrm M (some (a, n)) l) = some a) ∧ Nf M (nrm M none l) := by
  induction l with
  | nil =>
    refine ⟨fun a n h0 => ?_, trivial⟩
    have := emitN_nf M hM a [] trivial (by simp [headA]) n n (Nat.le_refl _) h0
    simpa [nrm, emit] using this
  | cons s l ih =>
    have h1 := hl.1
    obtain ⟨i1, i2⟩ := ih hl.2
    refine ⟨fun a n h0 => ?_, ?_⟩
    · simp only [nrm]
      split
      · exact i1 a _ (by omega)
      · rename_i h
        obtain ⟨j1, j2⟩ := i1 s.a s.c.toNat (by omega)
        exact emitN_nf M hM a _ j1 (by rw [j2]; intro e; exact h ((atB_iff _ _).2 (Option.some.inj e).symm)) n n (Nat.le_refl _) h0
    · simp only [nrm]
      exact (i1 s.a s.c.toNat (by omega)).1
theorem nf_uniq (M : Nat) (l : List Sn) : ∀ r, Nf M l → Nf M r → expand l = expand r → l = r := by
  induction l with
  | nil =>
    intro r hl hr e
    cases r with
    | nil => rfl
    | cons t r =>
      have := hr.1.1
      simp only [expand] at e
      have hl := congrArg List.length e
      simp at hl
      omega
  | cons s l ih =>
    intro r hl hr e
    cases r with
    | nil =>
      have := hl.1.1
      simp only [expand] at e
      have hl := congrArg List.length e
      simp at hl
      omega
    | cons t r =>
      have s1 := hl.1.1
      have t1 := hr.1.1
      obtain ⟨p, hp⟩ : ∃ p, s.c.toNat = p + 1 := ⟨s.c.toNat - 1, by omega⟩
      obtain ⟨q, hq⟩ : ∃ q, t.c.toNat = q + 1 := ⟨t.c.toNat - 1, by omega⟩
      simp only [expand] at e
      have ha : s.a = t.a := by
        rw [hp, hq, List.replicate_succ, List.replicate_succ, List.cons_append, List.cons_append] at e
        exact (List.cons.inj e).1
      have key : ∀ (x y : Sn) (a b : List Sn), Nf M (x :: a) → Nf M (y :: b) → x.a = y.a → x.c < y.c → List.replicate x.c.toNat x.a ++ expand a = List.replicate y.c.toNat y.a ++ expand b → False := by
        intro x y a b hx hy hxy hlt he
        have x1 := hx.1
        have y1 := hy.1
        rw [show y.c.toNat = x.c.toNat + (y.c.toNat - x.c.toNat) by omega, ← replicate_add, List.append_assoc, ← hxy, List.append_cancel_left_eq] at he
        obtain ⟨d, hd⟩ : ∃ d, y.c.toNat - x.c.toNat = d + 1 := ⟨y.c.toNat - x.c.toNat - 1, by omega⟩
        rw [hd, List.replicate_succ, List.cons_append] at he
        cases a with
        | nil => simp [expand] at he
        | cons u a =>
          have u1 := hx.2.2.1
          obtain ⟨v, hv⟩ : ∃ v, u.c.toNat = v + 1 := ⟨u.c.toNat - 1, by omega⟩
          simp only [expand] at he
          rw [hv, List.replicate_succ, List.cons_append] at he
          have hu := (List.cons.inj he).1
          have := hx.2.1 hu.symm
          omega
      rcases Int.lt_trichotomy s.c t.c with h | h | h
      · exact (key s t l r hl hr ha h e).elim
      · rw [← ha, ← h, List.append_cancel_left_eq] at e
        have := ih r hl.2.2 hr.2.2 e
        rw [this]
        congr 1
        cases s
        cases t
        simp at h ha
        simp [h, ha]
      · exact (key t s r l hr hl ha.symm h e.symm).elim
theorem nrm_same (M : Nat) (hM : 0 < M) (l r : List Sn) (hl : Pos l) (hr : Pos r) : nrm M none l = nrm M none r ↔ expand l = expand r := by
  have e1 := nrm_expand M hM l none
  have e2 := nrm_expand M hM r none
  simp only [heldE, List.nil_append] at e1 e2
  refine ⟨fun h => ?_, fun h => ?_⟩
  · rw [← e1, ← e2, h]
  · exact nf_uniq M _ _ (nrm_nf M hM l hl).2 (nrm_nf M hM r hr).2 (by rw [e1, e2, h])
theorem nrm_again (M : Nat) (hM : 0 < M) (l : List Sn) (hl : Pos l) : nrm M none (nrm M none l) = nrm M none l := by
  have h := (nrm_nf M hM l hl).2
  rw [nrm_same M hM _ l h.inM.pos hl]
  have e1 := nrm_expand M hM l none
  simpa [heldE] using e1
theorem emitN_len (M : Nat) (hM : 0 < M) (a : At) : ∀ f n g, n ≤ g * M → (emitN M a f n).length ≤ g := by
  intro f
  induction f with
  | zero => intro n g h; simp [emitN]
  | succ f ih =>
    intro n g h
    unfold emitN
    split
    · simp
    · cases g with
      | zero => simp at h; omega
      | succ g =>
        have := ih (n - min n M) g (by rw [Nat.succ_mul] at h; omega)
        simp only [List.length_cons]
        omega
theorem nrm_len (M : Nat) (hM : 0 < M) (l : List Sn) (hl : InM M l) : (∀ a n g, n ≤ g * M → (nrm M (some (a, n)) l).length ≤ g + l.length) ∧ (nrm M none l).length ≤ l.length := by
  induction l with
  | nil => exact ⟨fun a n g h => emitN_len M hM a n n g h, Nat.le_refl _⟩
  | cons s l ih =>
    have h1 := hl.1
    obtain ⟨i1, i2⟩ := ih hl.2
    refine ⟨fun a n g h => ?_, ?_⟩
    · simp only [nrm, List.length_cons]
      split
      · have := i1 a (n + s.c.toNat) (g + 1) (by rw [Nat.succ_mul]; omega)
        omega
      · have := i1 s.a s.c.toNat 1 (by omega)
        have := emitN_len M hM a n n g h
        rw [List.length_append]
        unfold emit
        omega
    · simp only [nrm, List.length_cons]
      have := i1 s.a s.c.toNat 1 (by omega)
      omega
theorem emitN_sum (M : Nat) (hM : 0 < M) (a : At) : ∀ f n, n ≤ f → sumC (emitN M a f n) = n := by
  intro f
  induction f with
  | zero => intro n hn; have : n = 0 := by omega
            subst this; rfl
  | succ f ih =>
    intro n hn
    unfold emitN
    split
    · rename_i h; subst h; rfl
    · simp only [sumC]
      rw [ih _ (by omega)]
      omega
theorem sum_expand {l : List Sn} (h : Pos l) : sumC l = (expand l).length := by
  induction l with
  | nil => rfl
  | cons s l ih =>
    have := h.1
    simp only [sumC, expand, List.length_append, List.length_replicate]
    rw [ih h.2]
    omega
end Go.Proofs.YtdfjfacilbahkaaDoor
