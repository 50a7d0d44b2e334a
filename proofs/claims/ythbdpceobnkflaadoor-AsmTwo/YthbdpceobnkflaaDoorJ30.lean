/- An assembled source's object is one: the whole of it, by plain mathematics. How many bytes an assembled source's object has: by plain mathematics. The bytes of an assembled source's object, address by address: by plain mathematics. The labels of an assembled source's object are found where they were put: by plain mathematics. -/
import Derived.Test.YthbdpceobnkflaaDoorJ29
import Derived.Test.YthbdpceobnkflaaDoorJ28
import Derived.Test.YthbdpceobnkflaaDoorJ18
import Derived.Test.YthbdpceobnkflaaDoorJ9
import Derived.BigQuiet
namespace Go.Proofs.YthbdpceobnkflaaDoor
open Go Go.RowKit
set_option linter.unusedVariables false
set_option maxHeartbeats 1000000
set_option maxRecDepth 20000

/-- A source that was assembled. -/
structure AsmOk (L : List Itm) : Prop where
  c : checkE (L.map (·.1)) = 0
  l : layE sh0 (L.map (·.1)) 0 = none
  f : filE (asmN L) (zipP L) 0 = none
  g : ∀ x ∈ L, x.2.length = x.1.m
/-- An item and its place. -/
def AtJ (L : List Itm) (j : Nat) (x : Itm) (p : Nat) : Prop := L[j]? = some x ∧ (plcs sh0 (L.map (·.1)))[j]? = some p
theorem AtJ.r {L : List Itm} {j : Nat} {x : Itm} {p : Nat} (h : AtJ L j x p) : (L.map (·.1))[j]? = some x.1 := by rw [List.getElem?_map, h.1]; rfl
theorem AtJ.z {L : List Itm} {j : Nat} {x : Itm} {p : Nat} (h : AtJ L j x p) : (zipP L)[j]? = some (x, p) := by
  unfold zipP
  rw [List.getElem?_zip_eq_some]
  exact h
theorem atJ_of {L : List Itm} {j : Nat} {r : Ri} {p : Nat} (h : (L.map (·.1))[j]? = some r) (hp : (plcs sh0 (L.map (·.1)))[j]? = some p) : ∃ x, AtJ L j x p ∧ x.1 = r := by
  rw [List.getElem?_map, Option.map_eq_some_iff] at h
  obtain ⟨x, h1, h2⟩ := h
  exact ⟨x, ⟨h1, hp⟩, h2⟩
theorem atJ_z {L : List Itm} {j : Nat} {z : Itm × Nat} (h : (zipP L)[j]? = some z) : AtJ L j z.1 z.2 := by
  unfold zipP at h
  rw [List.getElem?_zip_eq_some] at h
  exact h
theorem fil_none (N : List (ByteArray × Nat)) : ∀ (Z : List (Itm × Nat)) (i : Nat), filE N Z i = none → ∀ z ∈ Z, flE N z.2 z.1.1 = 0
  | [], i, _, z, hz => by cases hz
  | y :: Z, i, h, z, hz => by
    unfold filE at h
    split at h
    · rename_i h0
      rcases List.mem_cons.1 hz with rfl | hz
      · exact h0
      · exact fil_none N Z (i + 1) h z hz
    · cases h
section
variable {L : List Itm} (H : AsmOk L)
include H
theorem AsmOk.may {j : Nat} {x : Itm} {p : Nat} (h : AtJ L j x p) : mayI x.1 = true := (check_may H.c).2 x.1 (List.mem_of_getElem? h.r)
theorem AsmOk.all : ∀ r ∈ L.map (·.1), mayI r = true := (check_may H.c).2
theorem AsmOk.len {j : Nat} {x : Itm} {p : Nat} (h : AtJ L j x p) : (flB (asmN L) x).length = (if x.1.k = 1 ∨ x.1.k = 4 then 0 else szN x.1) :=
  flB_len (asmN L) x p (H.may h) (H.g x (List.mem_of_getElem? h.1)) (fil_none _ _ 0 H.f (x, p) (List.mem_of_getElem? h.z))
theorem AsmOk.lenT {j : Nat} {x : Itm} {p : Nat} (h : AtJ L j x p) (ht : takesA x.1) : (flB (asmN L) x).length = szN x.1 := by
  rw [H.len h, if_neg (fun e => e.elim ht.1 ht.2)]
theorem AsmOk.takes {j : Nat} {x : Itm} {p a : Nat} (h : AtJ L j x p) (h1 : p ≤ a) (h2 : a < p + (flB (asmN L) x).length) : takesA x.1 ∧ a < p + szN x.1 := by
  rw [H.len h] at h2
  by_cases hk : x.1.k = 1 ∨ x.1.k = 4
  · rw [if_pos hk] at h2; omega
  · rw [if_neg hk] at h2
    exact ⟨⟨fun e => hk (.inl e), fun e => hk (.inr e)⟩, h2⟩
theorem AsmOk.fits {j : Nat} {x : Itm} {p : Nat} (h : AtJ L j x p) : p + (flB (asmN L) x).length ≤ 65536 := by
  have hf := lay_fits _ sh0 0 sh0_ok H.all H.l j x.1 p h.r h.2
  rw [H.len h]
  by_cases hk : x.1.k = 1 ∨ x.1.k = 4
  · rw [if_pos hk]; exact hf.1
  · rw [if_neg hk]; exact hf.2.resolve_left hk
theorem AsmOk.zfits (M : List UInt8) (hM : M.length = 65536) : ∀ z ∈ zipP L, z.2 + (flB (asmN L) z.1).length ≤ M.length := fun z hz => by
  obtain ⟨j, hj⟩ := List.getElem?_of_mem hz
  rw [hM]
  exact H.fits (atJ_z hj)
theorem AsmOk.one {j j' : Nat} {x x' : Itm} {p p' a : Nat} (h : AtJ L j x p) (h' : AtJ L j' x' p') (ht : takesA x.1) (ht' : takesA x'.1) (h1 : p ≤ a) (h2 : a < p + szN x.1) (h3 : p' ≤ a) (h4 : a < p' + szN x'.1) : j = j' := by
  rcases Nat.lt_trichotomy j j' with hlt | he | hgt
  · exact absurd (lay_apart _ sh0 0 sh0_ok H.all H.l j j' x.1 x'.1 p p' h.r h.2 ht h'.r h'.2 ht' hlt a h1 h2 h3 h4) (fun h => h)
  · exact he
  · exact absurd (lay_apart _ sh0 0 sh0_ok H.all H.l j' j x'.1 x.1 p' p h'.r h'.2 ht' h.r h.2 ht hgt a h3 h4 h1 h2) (fun h => h)
/-- The bytes of an item lie at its place. -/
theorem AsmOk.mem {j : Nat} {x : Itm} {p a : Nat} (h : AtJ L j x p) (h1 : p ≤ a) (h2 : a < p + (flB (asmN L) x).length) : (asmMem L)[a]? = (flB (asmN L) x)[a - p]? := by
  unfold asmMem
  refine fil_at (asmN L) (zipP L) _ (H.zfits _ List.length_replicate) j (x, p) a h.z h1 h2 (fun j' y hlt hy hc => ?_)
  have t1 := H.takes h h1 h2
  have t2 := H.takes (atJ_z hy) hc.1 hc.2
  have := H.one h (atJ_z hy) t1.1 t2.1 h1 t1.2 hc.1 t2.2
  omega
theorem AsmOk.memLen : (asmMem L).length = 65536 := by
  unfold asmMem
  rw [fil_len (asmN L) (zipP L) _ (H.zfits _ List.length_replicate), List.length_replicate]
theorem AsmOk.use {j : Nat} {x : Itm} {p a : Nat} (h : AtJ L j x p) (ht : takesA x.1) (h1 : p ≤ a) (h2 : a < p + szN x.1) : (asmU L)[a]? = some (useI x.1) :=
  (lay_at _ sh0 0 sh0_ok H.all H.l j x.1 p h.r h.2 ht a h1 h2).1
theorem AsmOk.uLen : (asmU L).length = 65536 := by
  have : ∀ (l : List Ri) (s : Sh) (i : Nat), s.Ok → (∀ r ∈ l, mayI r = true) → layE s l i = none → (layS s l).Ok := by
    intro l
    induction l with
    | nil => intro s i hs _ _; exact hs
    | cons r l ih =>
      intro s i hs hm hE
      obtain ⟨h0, h1⟩ := lay_cons hE
      exact ih (stS s r) (i + 1) (hs.st (hm r (by simp)) h0) (fun r hr => hm r (by simp [hr])) h1
  exact (this _ sh0 0 sh0_ok H.all H.l).u
theorem AsmOk.from {a : Nat} {u : UInt8} (h : (asmU L)[a]? = some u) (hu : u ≠ 0) : ∃ j x p, AtJ L j x p ∧ takesA x.1 ∧ p ≤ a ∧ a < p + szN x.1 ∧ u = useI x.1 := by
  rcases lay_from _ sh0 0 sh0_ok H.all H.l a u h with h9 | ⟨j, r, p, h1, h2, h3, h4, h5, h6⟩
  · exfalso
    have : (List.replicate 65536 (0 : UInt8))[a]? = some u := h9
    rw [List.getElem?_replicate] at this
    split at this
    · simp at this; exact hu this.symm
    · cases this
  · obtain ⟨x, hx, rfl⟩ := atJ_of h1 h2
    exact ⟨j, x, p, hx, h3, h4, h5, h6⟩
theorem AsmOk.val (a : Nat) (u : UInt8) (h : (asmU L)[a]? = some u) : u = 0 ∨ u = 1 ∨ u = 2 := by
  by_cases hu : u = 0
  · exact .inl hu
  · obtain ⟨j, x, p, _, _, _, _, e⟩ := H.from h hu
    rw [e]
    unfold useI
    split
    · exact .inr (.inl rfl)
    · exact .inr (.inr rfl)
/-- An instruction's first byte says its size. -/
theorem AsmOk.first {j : Nat} {x : Itm} {p : Nat} (h : AtJ L j x p) (hk : x.1.k = 2) : ∃ b : UInt8, (flB (asmN L) x)[0]? = some b ∧ insL b = szN x.1 := by
  have hm := H.may h
  unfold flB
  rw [if_neg (by omega), if_neg (by omega), if_pos hk]
  by_cases hp : x.1.p = 0
  · obtain ⟨n, ho, hma⟩ := may_enc hm hk hp
    obtain ⟨b, h1, h2⟩ := enc_first x.1.n x.1.a n ho hma
    rw [if_pos hp]
    exact ⟨b, h1, by rw [h2, szN_c hm hk ho]⟩
  · obtain ⟨n, ho, htk⟩ := may_lab hm hk hp
    have hN : ∀ y ∈ asmN L, y.2 ≤ 65535 := fun y hy => ((lay_names _ sh0 0 sh0_ok H.all H.l (fun y hy => by cases hy) List.Pairwise.nil).1 y hy).1
    have ht : tgtN (asmN L) x.1 ≤ 65535 := by
      unfold tgtN
      split
      · rcases e : lookN (asmN L) x.1.l with _ | t
        · exact Nat.zero_le _
        · exact look_le hN e
      · exact Nat.zero_le _
    have hma := opF_may (r := x.1) (opOf_lt ho).1 ht htk
    rw [opF_opnd ho] at hma
    obtain ⟨b, h1, h2⟩ := enc_first x.1.n _ n ho hma
    rw [if_neg hp]
    exact ⟨b, h1, by rw [h2, szN_c hm hk ho]⟩
theorem AsmOk.starts : Starts (asmU L) (asmMem L) (fun a => ∃ j x, AtJ L j x a ∧ x.1.k = 2) := by
  have code : ∀ {r : Ri}, (1 : UInt8) = useI r → r.k = 2 := fun {r} e => by
    unfold useI at e
    split at e
    · assumption
    · exact absurd e (by decide)
  constructor
  · intro a h ha
    obtain ⟨j, x, p, hx, ht, h1, h2, e⟩ := H.from h (by decide)
    have hk := code e
    by_cases hp : p = a
    · subst hp; exact ⟨j, x, hx, hk⟩
    · exfalso
      have := H.use hx ht (a := a - 1) (by omega) (by omega)
      rw [← e] at this
      rcases ha with ha | ha
      · omega
      · exact ha this
  · rintro a ⟨j, x, hx, hk⟩
    have ht : takesA x.1 := ⟨by omega, by omega⟩
    obtain ⟨b, h1, h2⟩ := H.first hx hk
    have hl := H.lenT hx ht
    have hb := insL_le b
    have hu : useI x.1 = 1 := by unfold useI; rw [if_pos hk]
    refine ⟨b, ?_, ?_, ?_⟩
    · rw [H.mem hx (Nat.le_refl _) (by omega), Nat.sub_self]; exact h1
    · intro k hk'
      have := H.use hx ht (a := a + k) (by omega) (by omega)
      rw [hu] at this
      exact this
    · intro h9
      obtain ⟨j', x', p', hx', ht', h1', h2', e'⟩ := H.from h9 (by decide)
      have hk' := code e'
      by_cases hp : p' = a + insL b
      · subst hp; exact ⟨j', x', hx', hk'⟩
      · exfalso
        have := H.one hx hx' ht ht' (a := a + insL b - 1) (by omega) (by omega) (by omega) (by omega)
        subst this
        have e1 := hx.1.symm.trans hx'.1
        simp at e1
        subst e1
        have e2 := hx.2.symm.trans hx'.2
        simp at e2
        omega
/-- The object is one. -/
theorem AsmOk.good : mrk (blksF (asmMem L) [] (-1) (marksU (asmU L))) (marksU (asmU L)) = true ∧ rowsOk 0 (blksF (asmMem L) [] (-1) (marksU (asmU L))) ∧ labG [] (sortN (asmN L)) = true := by
  have hg : GoodM (asmMem L) ((0 : Nat) : Int) none (marksU (asmU L)) := mks_good (asmU L) (asmMem L) H.uLen H.memLen H.val _ H.starts 65536 0 none (fun u _ _ => by simp) (fun _ => .inl rfl)
  have h1 := marks_ok (asmMem L) H.memLen (marksU (asmU L)) hg
  have h2 := lay_names _ sh0 0 sh0_ok H.all H.l (fun y hy => by cases hy) List.Pairwise.nil
  exact ⟨h1.1, h1.2, sort_good (asmN L) h2.1 h2.2⟩
theorem AsmOk.okO {x : Oo} (hB : plB x.B = blksF (asmMem L) [] (-1) (marksU (asmU L))) (hM : x.M = marksU (asmU L)) (hL : x.L = sortN (asmN L)) (hl : ∀ q ∈ x.B, q.2.length = q.1.m) : okO x = true := by
  obtain ⟨h1, h2, h3⟩ := H.good
  unfold Go.Proofs.YthbdpceobnkflaaDoor.okO
  rw [← hB] at h1 h2
  rw [rowsOk_blk x.B 0 hl h2, hM, hL, h1, h3]
  rfl
end
end Go.Proofs.YthbdpceobnkflaaDoor

namespace Go.Proofs.YthbdpceobnkflaaDoor
open Go Go.RowKit
set_option linter.unusedVariables false
set_option maxHeartbeats 1000000
set_option maxRecDepth 20000

def sumB (B : List (Int × List UInt8)) : Nat := (B.map (fun b => b.2.length)).sum
def sumM (ms : List Mk) : Nat := (ms.map (fun m => m.n.toNat)).sum
theorem opn_sum (Mm : List UInt8) (hM : Mm.length = 65536) : ∀ (ms : List Mk) (e : Int) (p : Option Bool), GoodM Mm e p ms → (opn Mm e ms).1.length + sumB (opn Mm e ms).2 = sumM ms
  | [], e, p, _ => rfl
  | m :: r, e, p, ⟨⟨h1, h2, h3, h4⟩, h5⟩ => by
    have hl := seg_len Mm hM m h2
    have ih := opn_sum Mm hM r (m.a + m.n) (some m.c) h5
    have hs : sumM (m :: r) = m.n.toNat + sumM r := by unfold sumM; simp
    unfold opn
    by_cases h : m.a = e
    · rw [if_pos h]
      show (segM Mm m ++ (opn Mm (m.a + m.n) r).1).length + sumB (opn Mm (m.a + m.n) r).2 = _
      rw [List.length_append, hl, hs]
      omega
    · rw [if_neg h]
      show 0 + sumB ((m.a, segM Mm m ++ (opn Mm (m.a + m.n) r).1) :: (opn Mm (m.a + m.n) r).2) = _
      have : sumB ((m.a, segM Mm m ++ (opn Mm (m.a + m.n) r).1) :: (opn Mm (m.a + m.n) r).2) = (segM Mm m ++ (opn Mm (m.a + m.n) r).1).length + sumB (opn Mm (m.a + m.n) r).2 := by unfold sumB; simp
      rw [this, List.length_append, hl, hs]
      omega
theorem blks_sum (Mm : List UInt8) (hM : Mm.length = 65536) (ms : List Mk) (h : GoodM Mm 0 none ms) : sumB (blksF Mm [] (-1) ms) = sumM ms := by
  cases ms with
  | nil => rfl
  | cons m r =>
    obtain ⟨⟨h1, h2, h3, h4⟩, h5⟩ := h
    have hl := seg_len Mm hM m h2
    have e : blksF Mm [] (-1) (m :: r) = (m.a, segM Mm m ++ (opn Mm (m.a + m.n) r).1) :: (opn Mm (m.a + m.n) r).2 := by
      unfold blksF bst
      rw [if_neg (by omega), addL_app, blks_opn]
      simp
    have ih := opn_sum Mm hM r (m.a + m.n) (some m.c) h5
    have hs : sumM (m :: r) = m.n.toNat + sumM r := by unfold sumM; simp
    have : sumB ((m.a, segM Mm m ++ (opn Mm (m.a + m.n) r).1) :: (opn Mm (m.a + m.n) r).2) = (segM Mm m ++ (opn Mm (m.a + m.n) r).1).length + sumB (opn Mm (m.a + m.n) r).2 := by unfold sumB; simp
    rw [e, this, List.length_append, hl, hs]
    omega
def usedN (U : List UInt8) : Nat := U.countP (fun u => decide (u ≠ 0))
theorem mks_sum (U : List UInt8) : ∀ (f a : Nat), U.length - a ≤ f → sumM (mks U f a) = usedN (U.drop a)
  | 0, a, h => by
    rw [List.drop_eq_nil_of_le (by omega)]
    rfl
  | f + 1, a, h => by
    unfold mks
    rcases h0 : U[a]? with _ | u
    · rw [List.drop_eq_nil_of_le (List.getElem?_eq_none_iff.1 h0)]
      rfl
    · have h1 := (List.getElem?_eq_some_iff.1 h0).1
      have h2 := rEnd_ge U u (a + 1)
      have h3 := rEnd_le U u (a + 1) h1
      obtain ⟨f1, f2⟩ := rEnd_facts U u U.length (a + 1) (by omega)
      simp only
      generalize hE : rEnd U u (a + 1) = E at h2 h3 f1 f2 ⊢
      have ih := mks_sum U f E (by omega)
      have er : (U.drop a).take (E - a) = List.replicate (E - a) u := by
        apply List.ext_getElem?
        intro k
        rw [List.getElem?_take, List.getElem?_replicate]
        by_cases hk : k < E - a
        · rw [if_pos hk, if_pos hk, List.getElem?_drop]
          by_cases hz : k = 0
          · rw [hz]; exact h0
          · exact f1 (a + k) (by omega) (by omega)
        · rw [if_neg hk, if_neg hk]
      have ed : U.drop a = List.replicate (E - a) u ++ U.drop E := by
        have := (List.take_append_drop (E - a) (U.drop a)).symm
        rw [er, List.drop_drop, show a + (E - a) = E from by omega] at this
        exact this
      have ec : usedN (U.drop a) = (if u = 0 then 0 else E - a) + usedN (U.drop E) := by
        unfold usedN
        rw [ed, List.countP_append, List.countP_replicate]
        by_cases hu : u = 0 <;> simp [hu]
      rw [ec]
      by_cases hu : u = 0
      · rw [if_pos hu, if_pos hu, List.nil_append, Nat.zero_add]
        exact ih
      · rw [if_neg hu, if_neg hu]
        show sumM (⟨(a : Int), (E : Int) - (a : Int), decide (u = 1)⟩ :: mks U f E) = _
        have hs : sumM ((⟨(a : Int), (E : Int) - (a : Int), decide (u = 1)⟩ : Mk) :: mks U f E) = ((E : Int) - (a : Int)).toNat + sumM (mks U f E) := by unfold sumM; simp
        rw [hs, ih]
        omega
def sizesN (l : List Ri) : Nat := (l.map (fun r => if r.k = 1 ∨ r.k = 4 then 0 else szN r)).sum
theorem used_cl {s : Sh} (hs : s.Ok) {n : Nat} (u : UInt8) (hu : u ≠ 0) (h : clE s n = 0) : usedN (clS s n u).U = usedN s.U + n := by
  obtain ⟨h1, h2⟩ := clE_zero h
  have e1 : s.U = s.U.take s.p ++ ((s.U.drop s.p).take n ++ s.U.drop (s.p + n)) := by
    rw [← List.drop_drop, List.take_append_drop, List.take_append_drop]
  have e2 : (clS s n u).U = s.U.take s.p ++ (List.replicate n u ++ s.U.drop (s.p + n)) := by
    show splice s.U s.p (List.replicate n u) = _
    unfold splice
    rw [List.length_replicate]
  have e3 : ((s.U.drop s.p).take n).countP (fun u => decide (u ≠ 0)) = 0 := by
    rw [List.countP_eq_zero]
    rw [List.any_eq_false] at h2
    exact fun x hx => h2 x hx
  have e4 : usedN s.U = (s.U.take s.p).countP (fun u => decide (u ≠ 0)) + (s.U.drop (s.p + n)).countP (fun u => decide (u ≠ 0)) := by
    have := congrArg (List.countP (fun u => decide (u ≠ 0))) e1
    rw [List.countP_append, List.countP_append, e3] at this
    unfold usedN
    omega
  rw [e4, e2]
  unfold usedN
  rw [List.countP_append, List.countP_append, List.countP_replicate, if_pos (by simpa using hu)]
  omega
theorem used_lay : ∀ (l : List Ri) (s : Sh) (i : Nat), s.Ok → (∀ r ∈ l, mayI r = true) → layE s l i = none → usedN (layS s l).U = usedN s.U + sizesN l
  | [], s, i, _, _, _ => rfl
  | r :: l, s, i, hs, hm, hE => by
    obtain ⟨h0, h1⟩ := lay_cons hE
    have ih := used_lay l (stS s r) (i + 1) (hs.st (hm r (by simp)) h0) (fun r hr => hm r (by simp [hr])) h1
    have e : sizesN (r :: l) = (if r.k = 1 ∨ r.k = 4 then 0 else szN r) + sizesN l := by unfold sizesN; simp
    show usedN (layS (stS s r) l).U = _
    rw [ih, e]
    by_cases hk : r.k = 1 ∨ r.k = 4
    · rw [if_pos hk, st_same (fun ht => hk.elim ht.1 ht.2)]
      omega
    · have ht : takesA r := ⟨fun e => hk (.inl e), fun e => hk (.inr e)⟩
      obtain ⟨e1, e2⟩ := st_U (s := s) ht
      rw [e1] at h0
      rw [if_neg hk, e2, used_cl hs (useI r) (use_ne r) h0]
      omega
/-- As many bytes as the items have. -/
theorem AsmOk.sum {L : List Itm} (H : AsmOk L) : sumB (blksF (asmMem L) [] (-1) (marksU (asmU L))) = sizesN (L.map (·.1)) := by
  have hg : GoodM (asmMem L) ((0 : Nat) : Int) none (marksU (asmU L)) := mks_good (asmU L) (asmMem L) H.uLen H.memLen H.val _ H.starts 65536 0 none (fun u _ _ => by simp) (fun _ => .inl rfl)
  rw [blks_sum (asmMem L) H.memLen _ hg]
  have h1 : sumM (marksU (asmU L)) = usedN ((asmU L).drop 0) := mks_sum (asmU L) 65536 0 (by rw [H.uLen]; exact Nat.le_refl _)
  have h2 := used_lay _ sh0 0 sh0_ok H.all H.l
  have h3 : usedN sh0.U = 0 := by
    show (List.replicate 65536 (0 : UInt8)).countP _ = 0
    rw [List.countP_replicate, if_neg (by decide)]
  rw [h1, List.drop_zero]
  show usedN (layS sh0 (L.map (·.1))).U = _
  rw [h2, h3, Nat.zero_add]
end Go.Proofs.YthbdpceobnkflaaDoor

namespace Go.Proofs.YthbdpceobnkflaaDoor
open Go Go.RowKit
set_option linter.unusedVariables false
set_option maxHeartbeats 1000000
set_option maxRecDepth 20000

/-- What rows of bytes say of an address. -/
def valB : List (Int × List UInt8) → Int → UInt8 → UInt8
  | [], _, d => d
  | b :: r, a, d => valB r a (if b.1 ≤ a then (b.2[(a - b.1).toNat]?).getD d else d)
theorem ovrAll_at : ∀ (B : List (Int × List UInt8)) (fr : Int) (out : List UInt8) (k : Nat), k < out.length → (ovrAll fr out B)[k]? = some (valB B (fr + k) (out.getD k 0))
  | [], fr, out, k, h => by
    show out[k]? = some (out.getD k 0)
    rw [List.getElem?_eq_getElem h, List.getD_eq_getElem?_getD, List.getElem?_eq_getElem h]
    rfl
  | b :: r, fr, out, k, h => by
    show (ovrAll fr (ovr fr out b.1 b.2) r)[k]? = _
    rw [ovrAll_at r fr _ k (by rw [ovr_len]; exact h)]
    have e : (ovr fr out b.1 b.2).getD k 0 = if b.1 ≤ fr + k then (b.2[(fr + k - b.1).toNat]?).getD (out.getD k 0) else out.getD k 0 := by
      rw [List.getD_eq_getElem?_getD, ovr_at fr out b.1 b.2 k h]
      rfl
    rw [e]
    rfl
def covM (ms : List Mk) (a : Int) : Bool := ms.any (fun m => decide (m.a ≤ a ∧ a < m.a + m.n))
theorem cov_cons (m : Mk) (r : List Mk) (a : Int) : covM (m :: r) a = (decide (m.a ≤ a ∧ a < m.a + m.n) || covM r a) := rfl
theorem cov_low {Mm : List UInt8} : ∀ {ms : List Mk} {e : Int} {p : Option Bool}, GoodM Mm e p ms → ∀ a, a < e → covM ms a = false
  | [], _, _, _, _, _ => rfl
  | m :: r, e, p, ⟨⟨h1, h2, _, _⟩, h5⟩, a, ha => by
    have := h2.2.1
    rw [cov_cons, cov_low h5 a (by omega), decide_eq_false (by omega)]
    rfl
theorem opn_val (Mm : List UInt8) (hM : Mm.length = 65536) : ∀ (ms : List Mk) (e : Int) (p : Option Bool), GoodM Mm e p ms → (∀ a d, a < e → valB (opn Mm e ms).2 a d = d) ∧ (∀ a d, e ≤ a → valB (opn Mm e ms).2 a (((opn Mm e ms).1[(a - e).toNat]?).getD d) = if covM ms a then (Mm[a.toNat]?).getD 0 else d)
  | [], e, p, _ => ⟨fun a d _ => rfl, fun a d _ => by simp [opn, valB, covM]⟩
  | m :: r, e, p, ⟨⟨h1, h2, h3, h4⟩, h5⟩ => by
    have hl := seg_len Mm hM m h2
    have h2' := h2
    obtain ⟨q1, q2, q3⟩ := h2'
    obtain ⟨i1, i2⟩ := opn_val Mm hM r (m.a + m.n) (some m.c) h5
    have hlow := fun a ha => cov_low h5 a ha
    have key : ∀ a d, m.a ≤ a → valB (opn Mm (m.a + m.n) r).2 a (((segM Mm m ++ (opn Mm (m.a + m.n) r).1)[(a - m.a).toNat]?).getD d) = if covM (m :: r) a then (Mm[a.toNat]?).getD 0 else d := fun a d ha => by
      by_cases hc : a < m.a + m.n
      · rw [i1 _ _ hc, cov_cons, decide_eq_true ⟨ha, hc⟩, Bool.true_or, if_pos rfl, List.getElem?_append_left (by rw [hl]; omega)]
        have e1 : (segM Mm m)[(a - m.a).toNat]? = Mm[a.toNat]? := by
          unfold segM
          rw [List.getElem?_take, if_pos (by omega), List.getElem?_drop]
          congr 1
          omega
        rw [e1, List.getElem?_eq_getElem (by omega : a.toNat < Mm.length)]
        rfl
      · rw [cov_cons, decide_eq_false (by omega), Bool.false_or, List.getElem?_append_right (by rw [hl]; omega), hl, show (a - m.a).toNat - m.n.toNat = (a - (m.a + m.n)).toNat from by omega]
        exact i2 a d (by omega)
    unfold opn
    by_cases h : m.a = e
    · rw [if_pos h]
      refine ⟨fun a d ha => i1 a d (by omega), fun a d ha => ?_⟩
      show valB (opn Mm (m.a + m.n) r).2 a (((segM Mm m ++ (opn Mm (m.a + m.n) r).1)[(a - e).toNat]?).getD d) = _
      rw [← h]
      exact key a d (by omega)
    · rw [if_neg h]
      have vc : ∀ a d, valB ((m.a, segM Mm m ++ (opn Mm (m.a + m.n) r).1) :: (opn Mm (m.a + m.n) r).2) a d = if m.a ≤ a then (if covM (m :: r) a then (Mm[a.toNat]?).getD 0 else d) else d := fun a d => by
        show valB (opn Mm (m.a + m.n) r).2 a (if m.a ≤ a then ((segM Mm m ++ (opn Mm (m.a + m.n) r).1)[(a - m.a).toNat]?).getD d else d) = _
        by_cases hc : m.a ≤ a
        · rw [if_pos hc, if_pos hc]; exact key a d hc
        · rw [if_neg hc, if_neg hc]; exact i1 a d (by omega)
      refine ⟨fun a d ha => ?_, fun a d ha => ?_⟩
      · rw [vc, if_neg (by omega)]
      · show valB ((m.a, segM Mm m ++ (opn Mm (m.a + m.n) r).1) :: (opn Mm (m.a + m.n) r).2) a d = _
        rw [vc]
        by_cases hc : m.a ≤ a
        · rw [if_pos hc]
        · rw [if_neg hc, cov_cons, hlow a (by omega), decide_eq_false (by omega)]
          rfl
theorem blks_val (Mm : List UInt8) (hM : Mm.length = 65536) (ms : List Mk) (h : GoodM Mm 0 none ms) (a : Int) (d : UInt8) : valB (blksF Mm [] (-1) ms) a d = if covM ms a then (Mm[a.toNat]?).getD 0 else d := by
  have e : blksF Mm [] (-1) ms = (opn Mm (-1) ms).2 := by
    cases ms with
    | nil => rfl
    | cons m r =>
      obtain ⟨⟨h1, _⟩, _⟩ := h
      unfold blksF bst opn
      rw [if_neg (by omega), addL_app, blks_opn, if_neg (by omega)]
      simp
  have h' : GoodM Mm (-1) none ms := good_low h (by omega)
  obtain ⟨i1, i2⟩ := opn_val Mm hM ms (-1) none h'
  have ho : (opn Mm (-1) ms).1 = [] := by
    cases ms with
    | nil => rfl
    | cons m r =>
      obtain ⟨⟨h1, _⟩, _⟩ := h
      unfold opn
      rw [if_neg (by omega)]
  rw [e]
  by_cases ha : -1 ≤ a
  · have := i2 a d ha
    rw [ho] at this
    exact this
  · rw [i1 a d (by omega), cov_low h' a (by omega)]
    rfl
theorem mks_cov (U : List UInt8) : ∀ (f a : Nat), U.length - a ≤ f → ∀ b : Nat, a ≤ b → covM (mks U f a) (b : Int) = decide ((U[b]?).getD 0 ≠ 0)
  | 0, a, h, b, hb => by
    rw [List.getElem?_eq_none_iff.2 (by omega)]
    rfl
  | f + 1, a, h, b, hb => by
    unfold mks
    rcases h0 : U[a]? with _ | u
    · have := List.getElem?_eq_none_iff.1 h0
      rw [List.getElem?_eq_none_iff.2 (by omega)]
      rfl
    · have h1 := (List.getElem?_eq_some_iff.1 h0).1
      have h2 := rEnd_ge U u (a + 1)
      have h3 := rEnd_le U u (a + 1) h1
      obtain ⟨f1, f2⟩ := rEnd_facts U u U.length (a + 1) (by omega)
      simp only
      generalize hE : rEnd U u (a + 1) = E at h2 h3 f1 f2 ⊢
      have hin : b < E → U[b]? = some u := fun hlt => by
        by_cases hk : b = a
        · rw [hk]; exact h0
        · exact f1 b (by omega) hlt
      have lo : ∀ (f E : Nat), ∀ b : Int, b < (E : Int) → covM (mks U f E) b = false := by
        intro f
        induction f with
        | zero => intro E b hlt; rfl
        | succ f ih =>
          intro E b hlt
          unfold mks
          rcases h9 : U[E]? with _ | v
          · rfl
          · have g2 := rEnd_ge U v (E + 1)
            simp only
            have hr := ih (rEnd U v (E + 1)) b (by omega)
            by_cases hv : v = 0
            · rw [if_pos hv, List.nil_append]; exact hr
            · rw [if_neg hv]
              show covM ((⟨(E : Int), ((rEnd U v (E + 1) : Nat) : Int) - (E : Int), decide (v = 1)⟩ : Mk) :: mks U f (rEnd U v (E + 1))) b = false
              rw [cov_cons, hr, decide_eq_false (by simp only; omega)]
              rfl
      by_cases hlt : b < E
      · rw [hin hlt]
        by_cases hu : u = 0
        · rw [if_pos hu, List.nil_append, lo f E _ (by omega), hu]
          rfl
        · rw [if_neg hu]
          show covM ((⟨(a : Int), (E : Int) - (a : Int), decide (u = 1)⟩ : Mk) :: mks U f E) (b : Int) = _
          rw [cov_cons, decide_eq_true (by simp only; omega), Bool.true_or]
          simp [hu]
      · have ih := mks_cov U f E (by omega) b (by omega)
        by_cases hu : u = 0
        · rw [if_pos hu, List.nil_append]; exact ih
        · rw [if_neg hu]
          show covM ((⟨(a : Int), (E : Int) - (a : Int), decide (u = 1)⟩ : Mk) :: mks U f E) (b : Int) = _
          rw [cov_cons, decide_eq_false (by simp only; omega), Bool.false_or]
          exact ih
/-- The bytes that are told: the memory where something lies, and 0 where nothing does. -/
theorem AsmOk.byt {L : List Itm} (H : AsmOk L) {x : Oo} (hB : plB x.B = blksF (asmMem L) [] (-1) (marksU (asmU L))) (hM : x.M = marksU (asmU L)) (hL : x.L = sortN (asmN L)) (hl : ∀ q ∈ x.B, q.2.length = q.1.m) (fr to : Nat) (h1 : fr ≤ to) (h2 : to ≤ 65536) :
    bytE x (fr : Int) (to : Int) = 0 ∧ (bytL x (fr : Int) (to : Int)).length = to - fr ∧ ∀ k, k < to - fr → (bytL x (fr : Int) (to : Int))[k]? = some (if ((asmU L)[fr + k]?).getD 0 ≠ 0 then ((asmMem L)[fr + k]?).getD 0 else 0) := by
  have hc : chkO x = 0 := by unfold chkO; rw [H.okO hB hM hL hl]; rfl
  have hE : bytE x (fr : Int) (to : Int) = 0 := by
    unfold bytE
    rw [hc, if_neg (by decide), if_neg (by omega)]
  have hg : GoodM (asmMem L) ((0 : Nat) : Int) none (marksU (asmU L)) := mks_good (asmU L) (asmMem L) H.uLen H.memLen H.val _ H.starts 65536 0 none (fun u _ _ => by simp) (fun _ => .inl rfl)
  have hb : bytL x (fr : Int) (to : Int) = ovrAll (fr : Int) (List.replicate (to - fr) 0) (blksF (asmMem L) [] (-1) (marksU (asmU L))) := by
    unfold bytL
    rw [if_pos hE, hB, show ((to : Int) - (fr : Int)).toNat = to - fr from by omega]
  refine ⟨hE, by rw [hb, ovrAll_len, List.length_replicate], fun k hk => ?_⟩
  rw [hb, ovrAll_at _ _ _ k (by rw [List.length_replicate]; exact hk), blks_val _ H.memLen _ hg]
  have hcv := mks_cov (asmU L) 65536 0 (by rw [H.uLen]; exact Nat.le_refl _) (fr + k) (Nat.zero_le _)
  have e1 : ((fr + k : Nat) : Int) = (fr : Int) + (k : Int) := by omega
  rw [e1] at hcv
  have hcv' : covM (marksU (asmU L)) ((fr : Int) + (k : Int)) = decide (((asmU L)[fr + k]?).getD 0 ≠ 0) := hcv
  rw [hcv', show ((fr : Int) + (k : Int)).toNat = fr + k from by omega, List.getD_eq_getElem?_getD, List.getElem?_replicate, if_pos hk]
  by_cases hz : ((asmU L)[fr + k]?).getD 0 = 0
  · simp [hz]
  · simp [hz]
end Go.Proofs.YthbdpceobnkflaaDoor

namespace Go.Proofs.YthbdpceobnkflaaDoor
open Go Go.RowKit
set_option linter.unusedVariables false
set_option maxHeartbeats 1000000
set_option maxRecDepth 20000

theorem look_iff {N : List (ByteArray × Nat)} (hd : N.Pairwise (fun a b => a.1 ≠ b.1)) (s : ByteArray) (t : Nat) : lookN N s = some t ↔ (s, t) ∈ N := by
  induction N with
  | nil => simp [lookN]
  | cons x r ih =>
    obtain ⟨h1, h2⟩ := List.pairwise_cons.1 hd
    have ih := ih h2
    unfold lookN
    by_cases hs : s = x.1
    · rw [if_pos hs]
      constructor
      · intro e
        simp at e
        rw [hs, ← e]
        simp
      · intro hm
        rcases List.mem_cons.1 hm with e | hm
        · rw [← e]
        · exact absurd hs.symm (h1 _ hm)
    · rw [if_neg hs, ih]
      constructor
      · exact fun h => List.mem_cons_of_mem _ h
      · intro hm
        rcases List.mem_cons.1 hm with e | hm
        · exact absurd (by rw [← e]) hs
        · exact hm
theorem AsmOk.labels {L : List Itm} (H : AsmOk L) : (sortN (asmN L)).length = (asmN L).length := by
  have hperm : (sortN (asmN L)).Perm ((asmN L).map toLa) := List.mergeSort_perm _ _
  rw [hperm.length_eq, List.length_map]
end Go.Proofs.YthbdpceobnkflaaDoor
