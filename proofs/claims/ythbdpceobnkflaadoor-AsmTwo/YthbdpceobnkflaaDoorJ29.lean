/- What Assemble answers. A laid source: what lies at each address, by plain mathematics. Marks and rows of bytes make an object: by plain mathematics. An assembled source's object: marks, bytes and labels as the document asks, by plain mathematics. -/
import Derived.Test.YthbdpceobnkflaaDoorJ28
import Derived.Test.YthbdpceobnkflaaDoorJ26
import Derived.Test.YthbdpceobnkflaaDoorJ18
namespace Go.Proofs.YthbdpceobnkflaaDoor
open Go Go.RowKit
set_option linter.unusedVariables false
set_option maxHeartbeats 1000000
set_option maxRecDepth 20000

/-- What Assemble answers, in memory: why not, and of which item; or the object. -/
def AsE (w : World) (L : List Itm) (e : Ending) (z : World) : Prop :=
  (∃ E n : Int, e = .returned (.tuple #[.agg (oC zO), .int .i64 E, .int .i64 n]) ∧ Hid (Below w.heap.size w z ∧ BadA L sh0 E n)) ∨
  (∃ x : Oo, e = .returned (.tuple #[.agg (oC x), .int .i64 0, .int .i64 0]) ∧ Hid (Below w.heap.size w z ∧ Lco z x ∧ checkE (L.map (·.1)) = 0 ∧ layE sh0 (L.map (·.1)) 0 = none ∧ filE (asmN L) (zipP L) 0 = none ∧ plB x.B = blksF (asmMem L) [] (-1) (marksU (asmU L)) ∧ x.M = marksU (asmU L) ∧ x.L = sortN (asmN L)))
theorem assemble_any (w : World) (T : Hid (Tabs w)) (sp : Option Addr) (cap : Nat) (L : List Itm) (hl : Hid (LiesL 6 c6 w sp (L.map (·.1)))) (hg : Hid (∀ x ∈ L, LB8 w x.1.sp x.2 ∧ x.2.length = x.1.m)) (hn : L.length ≤ 9223372036854775807) :
    Calls Tryd.prog 8 #[.slice sp L.length cap] w (AsE w L) :=
  assemble_core ⟨zL⟩ w T sp cap L hl hg hn sh0 ⟨sh0_ok, rfl⟩ (List.replicate 65536 0) List.length_replicate (fun u => newSheet_any u) (AsE w L)
    (fun z E n h1 h2 => .inl ⟨E, n, rfl, h1, h2⟩) (fun x z h1 h2 h3 h4 h5 h6 h7 h8 => .inr ⟨x, rfl, h1, h2, h3, h4, h5, h6, h7, h8⟩)
end Go.Proofs.YthbdpceobnkflaaDoor

namespace Go.Proofs.YthbdpceobnkflaaDoor
open Go Go.RowKit
set_option linter.unusedVariables false
set_option maxHeartbeats 1000000
set_option maxRecDepth 20000

/-- An item that takes up addresses. -/
def takesA (r : Ri) : Prop := ¬ r.k = 1 ∧ ¬ r.k = 4
theorem lay_cons {s : Sh} {r : Ri} {l : List Ri} {i : Nat} (h : layE s (r :: l) i = none) : stE s r = 0 ∧ layE (stS s r) l (i + 1) = none := by
  unfold layE at h
  split at h
  · rename_i h0; exact ⟨h0, h⟩
  · cases h
theorem st_U {s : Sh} {r : Ri} (h : takesA r) : stE s r = clE s (szN r) ∧ stS s r = clS s (szN r) (useI r) := by
  unfold stE stS
  rw [if_neg h.1, if_neg h.2, if_neg h.1, if_neg h.2]
  exact ⟨rfl, rfl⟩
theorem st_same {s : Sh} {r : Ri} (h : ¬ takesA r) : (stS s r).U = s.U := by
  unfold stS
  split
  · rfl
  · split
    · rfl
    · exact absurd ⟨by assumption, by assumption⟩ h
theorem use_ne (r : Ri) : useI r ≠ 0 := by unfold useI; split <;> decide
/-- What one item takes up, and what it leaves. -/
theorem cl_at {s : Sh} (hs : s.Ok) {n : Nat} (u : UInt8) (h : clE s n = 0) (a : Nat) : (clS s n u).U[a]? = (if s.p ≤ a ∧ a < s.p + n then some u else s.U[a]?) ∧ (s.p ≤ a → a < s.p + n → s.U[a]? = some 0) := by
  obtain ⟨h1, h2⟩ := clE_zero h
  constructor
  · show (splice s.U s.p (List.replicate n u))[a]? = _
    rw [spliceL_at _ _ _ (by rw [List.length_replicate, hs.u]; exact h1), List.length_replicate]
    by_cases hc : s.p ≤ a ∧ a < s.p + n
    · rw [if_pos hc, if_pos hc, List.getElem?_replicate, if_pos (by omega)]
    · rw [if_neg hc, if_neg hc]
  · intro h3 h4
    have hl : a < s.U.length := by rw [hs.u]; omega
    rw [List.getElem?_eq_getElem hl]
    rw [List.any_eq_false] at h2
    have hm : s.U[a] ∈ (s.U.drop s.p).take n := by
      rw [List.mem_take_iff_getElem]
      refine ⟨a - s.p, by rw [List.length_drop]; omega, ?_⟩
      rw [List.getElem_drop]
      congr 1
      omega
    have := h2 _ hm
    simp at this
    rw [this]
/-- What lies there stays. -/
theorem lay_keep : ∀ (l : List Ri) (s : Sh) (i : Nat), s.Ok → (∀ r ∈ l, mayI r = true) → layE s l i = none → ∀ (a : Nat) (u : UInt8), u ≠ 0 → s.U[a]? = some u → (layS s l).U[a]? = some u
  | [], s, i, _, _, _, a, u, _, h => h
  | r :: l, s, i, hs, hm, hE, a, u, hu, h => by
    obtain ⟨h0, h1⟩ := lay_cons hE
    refine lay_keep l (stS s r) (i + 1) (hs.st (hm r (by simp)) h0) (fun r hr => hm r (by simp [hr])) h1 a u hu ?_
    by_cases ht : takesA r
    · obtain ⟨e1, e2⟩ := st_U (s := s) ht
      rw [e1] at h0
      have := cl_at hs (useI r) h0 a
      rw [e2, this.1]
      by_cases hc : s.p ≤ a ∧ a < s.p + szN r
      · have := this.2 hc.1 hc.2
        rw [this] at h
        simp at h
        exact absurd h.symm hu
      · rw [if_neg hc]; exact h
    · rw [st_same ht]; exact h
/-- Each item lies where it was put, and nothing was there before. -/
theorem lay_at : ∀ (l : List Ri) (s : Sh) (i : Nat), s.Ok → (∀ r ∈ l, mayI r = true) → layE s l i = none → ∀ (j : Nat) (r : Ri) (p : Nat), l[j]? = some r → (plcs s l)[j]? = some p → takesA r → ∀ a, p ≤ a → a < p + szN r → (layS s l).U[a]? = some (useI r) ∧ (s.U[a]? = some 0)
  | [], s, i, _, _, _, j, r, p, h, _, _, _, _, _ => by simp at h
  | x :: l, s, i, hs, hm, hE, j, r, p, hj, hp, ht, a, h1, h2 => by
    obtain ⟨h0, hE'⟩ := lay_cons hE
    have hs' := hs.st (hm x (by simp)) h0
    have hm' : ∀ r ∈ l, mayI r = true := fun r hr => hm r (by simp [hr])
    cases j with
    | zero =>
      simp [plcs] at hj hp
      subst hj hp
      obtain ⟨e1, e2⟩ := st_U (s := s) ht
      have h0' := h0
      rw [e1] at h0'
      have hc := cl_at hs (useI x) h0' a
      refine ⟨?_, hc.2 h1 h2⟩
      show (layS (stS s x) l).U[a]? = _
      refine lay_keep l _ (i + 1) hs' hm' hE' a _ (use_ne x) ?_
      rw [e2, hc.1, if_pos ⟨h1, h2⟩]
    | succ j =>
      simp [plcs] at hj hp
      have ih := lay_at l (stS s x) (i + 1) hs' hm' hE' j r p hj hp ht a h1 h2
      refine ⟨ih.1, ?_⟩
      by_cases hx : takesA x
      · obtain ⟨e1, e2⟩ := st_U (s := s) hx
        have h0' := h0
        rw [e1] at h0'
        have hc := cl_at hs (useI x) h0' a
        have ih2 := ih.2
        rw [e2, hc.1] at ih2
        split at ih2
        · simp at ih2
          exact absurd ih2 (use_ne x)
        · exact ih2
      · have := ih.2
        rw [st_same hx] at this
        exact this
/-- What lies anywhere was put there by an item. -/
theorem lay_from : ∀ (l : List Ri) (s : Sh) (i : Nat), s.Ok → (∀ r ∈ l, mayI r = true) → layE s l i = none → ∀ (a : Nat) (u : UInt8), (layS s l).U[a]? = some u → s.U[a]? = some u ∨ ∃ (j : Nat) (r : Ri) (p : Nat), l[j]? = some r ∧ (plcs s l)[j]? = some p ∧ takesA r ∧ p ≤ a ∧ a < p + szN r ∧ u = useI r
  | [], s, i, _, _, _, a, u, h => .inl h
  | x :: l, s, i, hs, hm, hE, a, u, h => by
    obtain ⟨h0, hE'⟩ := lay_cons hE
    rcases lay_from l (stS s x) (i + 1) (hs.st (hm x (by simp)) h0) (fun r hr => hm r (by simp [hr])) hE' a u h with h9 | ⟨j, r, p, h1, h2, h3⟩
    · by_cases hx : takesA x
      · obtain ⟨e1, e2⟩ := st_U (s := s) hx
        rw [e1] at h0
        have hc := cl_at hs (useI x) h0 a
        rw [e2, hc.1] at h9
        split at h9
        · rename_i hc9
          simp at h9
          exact .inr ⟨0, x, s.p, rfl, rfl, hx, hc9.1, hc9.2, h9.symm⟩
        · exact .inl h9
      · rw [st_same hx] at h9
        exact .inl h9
    · exact .inr ⟨j + 1, r, p, by simpa using h1, by simpa [plcs] using h2, h3⟩
/-- No two items lie on one address. -/
theorem lay_apart : ∀ (l : List Ri) (s : Sh) (i : Nat), s.Ok → (∀ r ∈ l, mayI r = true) → layE s l i = none → ∀ (j j' : Nat) (r r' : Ri) (p p' : Nat), l[j]? = some r → (plcs s l)[j]? = some p → takesA r → l[j']? = some r' → (plcs s l)[j']? = some p' → takesA r' → j < j' → ∀ a, p ≤ a → a < p + szN r → p' ≤ a → a < p' + szN r' → False
  | [], s, i, _, _, _, j, j', r, r', p, p', h, _, _, _, _, _, _, _, _, _, _, _ => by simp at h
  | x :: l, s, i, hs, hm, hE, j, j', r, r', p, p', hj, hp, ht, hj', hp', ht', hlt, a, h1, h2, h3, h4 => by
    obtain ⟨h0, hE'⟩ := lay_cons hE
    have hs' := hs.st (hm x (by simp)) h0
    have hm' : ∀ r ∈ l, mayI r = true := fun r hr => hm r (by simp [hr])
    obtain ⟨k', rfl⟩ : ∃ k, j' = k + 1 := ⟨j' - 1, by omega⟩
    simp [plcs] at hj' hp'
    cases j with
    | zero =>
      simp [plcs] at hj hp
      subst hj hp
      obtain ⟨e1, e2⟩ := st_U (s := s) ht
      rw [e1] at h0
      have hc := cl_at hs (useI x) h0 a
      have := (lay_at l (stS s x) (i + 1) hs' hm' hE' k' r' p' hj' hp' ht' a h3 h4).2
      rw [e2, hc.1, if_pos ⟨h1, h2⟩] at this
      simp at this
      exact use_ne x this
    | succ j =>
      simp [plcs] at hj hp
      exact lay_apart l (stS s x) (i + 1) hs' hm' hE' j k' r r' p p' hj hp ht hj' hp' ht' (by omega) a h1 h2 h3 h4
/-- The labels: each one called so but once. -/
theorem lay_names : ∀ (l : List Ri) (s : Sh) (i : Nat), s.Ok → (∀ r ∈ l, mayI r = true) → layE s l i = none → NmIn s.N → s.N.Pairwise (fun a b => a.1 ≠ b.1) → NmIn (layS s l).N ∧ (layS s l).N.Pairwise (fun a b => a.1 ≠ b.1)
  | [], s, i, _, _, _, h, h' => ⟨h, h'⟩
  | x :: l, s, i, hs, hm, hE, h, h' => by
    obtain ⟨h0, hE'⟩ := lay_cons hE
    refine lay_names l (stS s x) (i + 1) (hs.st (hm x (by simp)) h0) (fun r hr => hm r (by simp [hr])) hE' (nm_st h (hm x (by simp)) h0) ?_
    by_cases hk : x.k = 1
    · unfold stE at h0
      rw [if_pos hk] at h0
      unfold stS
      rw [if_pos hk]
      refine List.Pairwise.cons (fun y hy e => ?_) h'
      exact look_none (nmE_zero h0).2 (List.mem_map.2 ⟨y, hy, e.symm⟩)
    · unfold stS
      rw [if_neg hk]
      split
      · exact h'
      · exact h'
/-- Labels in order are an object's labels. -/
theorem lab_good : ∀ (l pre : List La), (pre ++ l).Pairwise (fun a b => befL a b = true ∧ a.n ≠ b.n) → (∀ x ∈ l, isNm x.n = true ∧ 0 ≤ x.a ∧ x.a ≤ 65535) → labG pre l = true
  | [], pre, _, _ => rfl
  | x :: l, pre, hp, hx => by
    have h1 := hx x (by simp)
    have hp' : ((pre ++ [x]) ++ l).Pairwise (fun a b => befL a b = true ∧ a.n ≠ b.n) := by rw [List.append_assoc]; exact hp
    unfold labG
    rw [lab_good l (pre ++ [x]) hp' (fun y hy => hx y (by simp [hy])), Bool.and_true]
    have hq : ∀ y ∈ pre, befL y x = true ∧ y.n ≠ x.n := fun y hy => (List.pairwise_append.1 hp).2.2 y hy x (by simp)
    unfold lok
    rw [h1.1, decide_eq_true h1.2]
    simp only [Bool.true_and]
    have e2 : pre.any (fun p => decide (p.n = x.n)) = false := by
      rw [List.any_eq_false]
      intro y hy
      simp [(hq y hy).2]
    rw [e2]
    rcases hl : pre.getLast? with _ | p
    · rfl
    · show (befL p x && true) = true
      rw [(hq p (List.mem_of_getLast? hl)).1]
      rfl
theorem sort_good (N : List (ByteArray × Nat)) (h : NmIn N) (hd : N.Pairwise (fun a b => a.1 ≠ b.1)) : labG [] (sortN N) = true := by
  have hs : (sortN N).Pairwise (fun a b => leL a b = true) := List.pairwise_mergeSort leL_trans leL_total _
  have hperm : (sortN N).Perm (N.map toLa) := List.mergeSort_perm _ _
  have hd' : (N.map toLa).Pairwise (fun a b => a.n ≠ b.n) := by rw [List.pairwise_map]; exact hd
  have hd2 : (sortN N).Pairwise (fun a b => a.n ≠ b.n) := (hperm.pairwise_iff (fun {a b} h => h.symm)).2 hd'
  refine lab_good (sortN N) [] ?_ ?_
  · rw [List.nil_append]
    refine (hs.and hd2).imp fun {a b} hab => ⟨?_, hab.2⟩
    have h1 := hab.1
    unfold leL at h1
    simp at h1
    rcases hb : befL a b with _ | _
    · have := befL_tri a b hb h1
      exact absurd (congrArg La.n this) hab.2
    · rfl
  · intro x hx
    have := (hperm.mem_iff).1 hx
    obtain ⟨y, hy, rfl⟩ := List.mem_map.1 this
    have := h y hy
    refine ⟨this.2, ?_, ?_⟩
    · show (0 : Int) ≤ (y.2 : Int); omega
    · show (y.2 : Int) ≤ 65535; omega
end Go.Proofs.YthbdpceobnkflaaDoor

namespace Go.Proofs.YthbdpceobnkflaaDoor
open Go Go.RowKit
set_option linter.unusedVariables false
set_option maxHeartbeats 1000000
set_option maxRecDepth 20000

/-- Where instructions start. -/
def Starts (U Mm : List UInt8) (st : Nat → Prop) : Prop := (∀ a, U[a]? = some 1 → (a = 0 ∨ U[a - 1]? ≠ some 1) → st a) ∧ ∀ a, st a → ∃ b : UInt8, Mm[a]? = some b ∧ (∀ k, k < insL b → U[a + k]? = some 1) ∧ (U[a + insL b]? = some 1 → st (a + insL b))
theorem whole_run (U Mm : List UInt8) (st : Nat → Prop) (h : Starts U Mm st) (e : Nat) (he : U[e]? ≠ some 1) (hM : e ≤ Mm.length) : ∀ (d a : Nat), a + d = e → (∀ k, a ≤ k → k < e → U[k]? = some 1) → (0 < d → st a) → wholeB ((Mm.drop a).take d) = true := by
  intro d
  induction d using Nat.strongRecOn with
  | _ d ih =>
    intro a hd hr hs
    by_cases h0 : d = 0
    · subst h0; rw [List.take_zero]; rfl
    · obtain ⟨b, h1, h2, h3⟩ := h.2 a (hs (by omega))
      have hb := insL_le b
      have hle : insL b ≤ d := by
        rcases Nat.lt_or_ge d (insL b) with hlt | hge
        · have := h2 d hlt
          rw [hd] at this
          exact absurd this he
        · exact hge
      have hlt : a < Mm.length := by omega
      have e1 : (Mm.drop a).take d = b :: (Mm.drop (a + 1)).take (d - 1) := by
        rw [List.drop_eq_getElem_cons hlt]
        obtain ⟨d', rfl⟩ : ∃ d', d = d' + 1 := ⟨d - 1, by omega⟩
        rw [List.take_succ_cons, Nat.add_sub_cancel]
        congr 1
        rw [List.getElem?_eq_getElem hlt] at h1
        simpa using h1
      have e2 : ((Mm.drop a).take d).drop (insL b) = (Mm.drop (a + insL b)).take (d - insL b) := by rw [List.drop_take, List.drop_drop]
      have e3 : ((Mm.drop a).take d).length = d := by rw [List.length_take, List.length_drop]; omega
      rw [e1, wholeB_cons, ← e1, e3, if_neg (by omega), e2]
      exact ih (d - insL b) (by omega) (a + insL b) (by omega) (fun k hk1 hk2 => hr k (by omega) hk2) (fun hpos => h3 (hr _ (by omega) (by omega)))
/-- Marks, each behind the one ahead of it: behind an address, behind a mark that was code or not. -/
def GoodM (Mm : List UInt8) : Int → Option Bool → List Mk → Prop
  | _, _, [] => True
  | e, p, m :: r => (e ≤ m.a ∧ MkIn m ∧ (m.a = e → p ≠ some m.c) ∧ (m.c = true → wholeB (segM Mm m) = true)) ∧ GoodM Mm (m.a + m.n) (some m.c) r
/-- The bytes that go on with the open row, and the rows behind it. -/
def opn (Mm : List UInt8) : Int → List Mk → List UInt8 × List (Int × List UInt8)
  | _, [] => ([], [])
  | e, m :: r => if m.a = e then (segM Mm m ++ (opn Mm (m.a + m.n) r).1, (opn Mm (m.a + m.n) r).2) else ([], (m.a, segM Mm m ++ (opn Mm (m.a + m.n) r).1) :: (opn Mm (m.a + m.n) r).2)
theorem blks_opn (Mm : List UInt8) : ∀ (ms : List Mk) (pre : List (Int × List UInt8)) (a0 : Int) (bs : List UInt8) (e : Int), blksF Mm (pre ++ [(a0, bs)]) e ms = pre ++ (a0, bs ++ (opn Mm e ms).1) :: (opn Mm e ms).2
  | [], pre, a0, bs, e => by simp [blksF, opn]
  | m :: r, pre, a0, bs, e => by
    unfold blksF bst opn
    by_cases h : m.a = e
    · rw [if_pos h, if_pos h, addL_app]
      simp only
      rw [blks_opn Mm r pre a0 (bs ++ segM Mm m) (m.a + m.n), List.append_assoc]
    · rw [if_neg h, if_neg h, addL_app]
      simp only
      rw [blks_opn Mm r (pre ++ [(a0, bs)]) m.a ([] ++ segM Mm m) (m.a + m.n)]
      simp
theorem seg_len (Mm : List UInt8) (hM : Mm.length = 65536) (m : Mk) (h : MkIn m) : (segM Mm m).length = m.n.toNat := by
  obtain ⟨h1, h2, h3⟩ := h
  unfold segM
  rw [List.length_take, List.length_drop, hM]
  omega
theorem mof_opn (Mm : List UInt8) (hM : Mm.length = 65536) (m : Mk) (hm : MkIn m) (X : List UInt8) (p : Option Bool) (hp : p ≠ some m.c) (hw : m.c = true → wholeB (segM Mm m) = true) (r : List Mk) : mof m.a (segM Mm m ++ X) p (m :: r) = (mof (m.a + m.n) X (some m.c) r).map (· + 1) := by
  have hl := seg_len Mm hM m hm
  obtain ⟨h1, h2, h3⟩ := hm
  have hne : segM Mm m ++ X ≠ [] := by
    intro e
    have := congrArg List.length e
    rw [List.length_append, hl] at this
    simp at this
    omega
  have ht : (segM Mm m ++ X).take m.n.toNat = segM Mm m := by rw [← hl, List.take_left]
  have hd : (segM Mm m ++ X).drop m.n.toNat = X := by rw [← hl, List.drop_left]
  rw [mof_cons _ _ _ _ _ hne]
  have hb : mbad m.a (segM Mm m ++ X) p m = false := by
    unfold mbad
    rw [ht, decide_eq_false hp]
    have : ¬ (m.a ≠ m.a ∨ m.n < 1 ∨ ((segM Mm m ++ X).length : Int) < m.n) := by
      rw [List.length_append, hl]
      push_cast
      omega
    rw [decide_eq_false this]
    cases hc : m.c
    · rfl
    · rw [hw hc]; rfl
  rw [hb, hd]
  rfl
theorem mrk_opn (Mm : List UInt8) (hM : Mm.length = 65536) : ∀ (ms : List Mk) (e : Int) (p : Option Bool), GoodM Mm e p ms → ∃ k, mof e (opn Mm e ms).1 p ms = some k ∧ mrk (opn Mm e ms).2 (ms.drop k) = true
  | [], e, p, _ => ⟨0, rfl, rfl⟩
  | m :: r, e, p, ⟨⟨h1, h2, h3, h4⟩, h5⟩ => by
    obtain ⟨k, i1, i2⟩ := mrk_opn Mm hM r (m.a + m.n) (some m.c) h5
    unfold opn
    by_cases h : m.a = e
    · rw [if_pos h]
      refine ⟨k + 1, ?_, i2⟩
      show mof e (segM Mm m ++ (opn Mm (m.a + m.n) r).1) p (m :: r) = some (k + 1)
      rw [← h, mof_opn Mm hM m h2 _ p (h3 h) h4, i1]
      rfl
    · rw [if_neg h]
      refine ⟨0, mof_nil _ _ _, ?_⟩
      rw [List.drop_zero]
      show mrk ((m.a, segM Mm m ++ (opn Mm (m.a + m.n) r).1) :: (opn Mm (m.a + m.n) r).2) (m :: r) = true
      unfold mrk
      simp only
      rw [mof_opn Mm hM m h2 _ none (by simp) h4, i1]
      exact i2
/-- Rows of bytes, from an address on. -/
def rowsOk : Int → List (Int × List UInt8) → Prop
  | _, [] => True
  | p, b :: r => (p ≤ b.1 ∧ 1 ≤ (b.2.length : Int) ∧ (b.2.length : Int) ≤ 65536 - b.1) ∧ rowsOk (b.1 + b.2.length + 1) r
theorem rowsOk_blk : ∀ (B : List Bb) (p : Int), (∀ x ∈ B, x.2.length = x.1.m) → rowsOk p (plB B) → blkOk p (B.map (·.1)) = true
  | [], p, _, _ => rfl
  | b :: r, p, hl, ⟨h1, h2⟩ => by
    have e := hl b (by simp)
    have h1' : p ≤ b.1.a ∧ 1 ≤ (b.2.length : Int) ∧ (b.2.length : Int) ≤ 65536 - b.1.a := h1
    rw [e] at h1'
    have h2' : rowsOk (b.1.a + (b.2.length : Int) + 1) (plB r) := h2
    rw [e] at h2'
    simp only [List.map_cons, blkOk]
    rw [decide_eq_true h1', rowsOk_blk r _ (fun x hx => hl x (by simp [hx])) h2']
    rfl
theorem rows_opn (Mm : List UInt8) (hM : Mm.length = 65536) : ∀ (ms : List Mk) (e : Int) (p : Option Bool), e ≤ 65536 → GoodM Mm e p ms → e + ((opn Mm e ms).1.length : Int) ≤ 65536 ∧ rowsOk (e + ((opn Mm e ms).1.length : Int) + 1) (opn Mm e ms).2
  | [], e, p, he, _ => ⟨by simp [opn]; exact he, trivial⟩
  | m :: r, e, p, he, ⟨⟨h1, h2, h3, h4⟩, h5⟩ => by
    have hl := seg_len Mm hM m h2
    have h2' := h2
    obtain ⟨q1, q2, q3⟩ := h2'
    obtain ⟨i1, i2⟩ := rows_opn Mm hM r (m.a + m.n) (some m.c) q3 h5
    have hz : ((segM Mm m ++ (opn Mm (m.a + m.n) r).1).length : Int) = m.n + ((opn Mm (m.a + m.n) r).1.length : Int) := by
      rw [List.length_append, hl]
      push_cast
      omega
    unfold opn
    by_cases h : m.a = e
    · rw [if_pos h]
      show e + ((segM Mm m ++ (opn Mm (m.a + m.n) r).1).length : Int) ≤ 65536 ∧ rowsOk (e + ((segM Mm m ++ (opn Mm (m.a + m.n) r).1).length : Int) + 1) (opn Mm (m.a + m.n) r).2
      rw [hz, ← h, ← Int.add_assoc]
      exact ⟨i1, i2⟩
    · rw [if_neg h]
      show e + (([] : List UInt8).length : Int) ≤ 65536 ∧ rowsOk (e + (([] : List UInt8).length : Int) + 1) ((m.a, segM Mm m ++ (opn Mm (m.a + m.n) r).1) :: (opn Mm (m.a + m.n) r).2)
      refine ⟨by simpa using he, ⟨?_, ?_⟩⟩
      · show e + (([] : List UInt8).length : Int) + 1 ≤ m.a ∧ 1 ≤ ((segM Mm m ++ (opn Mm (m.a + m.n) r).1).length : Int) ∧ ((segM Mm m ++ (opn Mm (m.a + m.n) r).1).length : Int) ≤ 65536 - m.a
        rw [hz]
        simp only [List.length_nil]
        omega
      · show rowsOk (m.a + ((segM Mm m ++ (opn Mm (m.a + m.n) r).1).length : Int) + 1) (opn Mm (m.a + m.n) r).2
        rw [hz, ← Int.add_assoc]
        exact i2
/-- All of it. -/
theorem marks_ok (Mm : List UInt8) (hM : Mm.length = 65536) (ms : List Mk) (h : GoodM Mm 0 none ms) : mrk (blksF Mm [] (-1) ms) ms = true ∧ rowsOk 0 (blksF Mm [] (-1) ms) := by
  cases ms with
  | nil => exact ⟨rfl, trivial⟩
  | cons m r =>
    obtain ⟨⟨h1, h2, h3, h4⟩, h5⟩ := h
    have hl := seg_len Mm hM m h2
    have h2' := h2
    obtain ⟨q1, q2, q3⟩ := h2'
    have e : blksF Mm [] (-1) (m :: r) = (m.a, segM Mm m ++ (opn Mm (m.a + m.n) r).1) :: (opn Mm (m.a + m.n) r).2 := by
      unfold blksF bst
      rw [if_neg (by omega), addL_app, blks_opn]
      simp
    obtain ⟨k, i1, i2⟩ := mrk_opn Mm hM r (m.a + m.n) (some m.c) h5
    obtain ⟨j1, j2⟩ := rows_opn Mm hM r (m.a + m.n) (some m.c) q3 h5
    have hz : ((segM Mm m ++ (opn Mm (m.a + m.n) r).1).length : Int) = m.n + ((opn Mm (m.a + m.n) r).1.length : Int) := by
      rw [List.length_append, hl]
      push_cast
      omega
    rw [e]
    constructor
    · unfold mrk
      simp only
      rw [mof_opn Mm hM m h2 _ none (by simp) h4, i1]
      exact i2
    · refine ⟨?_, ?_⟩
      · show (0 : Int) ≤ m.a ∧ 1 ≤ ((segM Mm m ++ (opn Mm (m.a + m.n) r).1).length : Int) ∧ ((segM Mm m ++ (opn Mm (m.a + m.n) r).1).length : Int) ≤ 65536 - m.a
        rw [hz]
        omega
      · show rowsOk (m.a + ((segM Mm m ++ (opn Mm (m.a + m.n) r).1).length : Int) + 1) (opn Mm (m.a + m.n) r).2
        rw [hz, ← Int.add_assoc]
        exact j2
end Go.Proofs.YthbdpceobnkflaaDoor

namespace Go.Proofs.YthbdpceobnkflaaDoor
open Go Go.RowKit
set_option linter.unusedVariables false
set_option maxHeartbeats 1000000
set_option maxRecDepth 20000

theorem rEnd_facts (U : List UInt8) (u : UInt8) : ∀ (d e : Nat), U.length - e ≤ d → (∀ k, e ≤ k → k < rEnd U u e → U[k]? = some u) ∧ U[rEnd U u e]? ≠ some u
  | 0, e, h => by
    have h0 : U[e]? ≠ some u := by rw [List.getElem?_eq_none_iff.2 (by omega)]; simp
    rw [rEnd_stop h0]
    exact ⟨fun k h1 h2 => by omega, h0⟩
  | d + 1, e, h => by
    by_cases h0 : U[e]? = some u
    · have hl := (List.getElem?_eq_some_iff.1 h0).1
      obtain ⟨i1, i2⟩ := rEnd_facts U u d (e + 1) (by omega)
      rw [rEnd_step h0]
      refine ⟨fun k h1 h2 => ?_, i2⟩
      by_cases hk : k = e
      · rw [hk]; exact h0
      · exact i1 k (by omega) h2
    · rw [rEnd_stop h0]
      exact ⟨fun k h1 h2 => by omega, h0⟩
theorem good_low {Mm : List UInt8} {e e' : Int} {p p' : Option Bool} : ∀ {ms : List Mk}, GoodM Mm e' p' ms → e < e' → GoodM Mm e p ms
  | [], _, _ => trivial
  | m :: r, ⟨⟨h1, h2, h3, h4⟩, h5⟩, h => ⟨⟨by omega, h2, fun he => by omega, h4⟩, h5⟩
/-- The marks of a laid source. -/
theorem mks_good (U Mm : List UInt8) (hU : U.length = 65536) (hM : Mm.length = 65536) (hV : ∀ (a : Nat) (u : UInt8), U[a]? = some u → u = 0 ∨ u = 1 ∨ u = 2) (st : Nat → Prop) (hS : Starts U Mm st) : ∀ (f a : Nat) (p : Option Bool), (∀ u, U[a]? = some u → u ≠ 0 → p ≠ some (decide (u = 1))) → (U[a]? = some 1 → a = 0 ∨ U[a - 1]? ≠ some 1) → GoodM Mm (a : Int) p (mks U f a)
  | 0, a, p, _, _ => trivial
  | f + 1, a, p, hp, ha => by
    unfold mks
    rcases h0 : U[a]? with _ | u
    · exact trivial
    · have h1 := (List.getElem?_eq_some_iff.1 h0).1
      have h2 := rEnd_ge U u (a + 1)
      have h3 := rEnd_le U u (a + 1) h1
      obtain ⟨f1, f2⟩ := rEnd_facts U u U.length (a + 1) (by omega)
      have hv := hV a u h0
      simp only
      generalize hE : rEnd U u (a + 1) = E at h2 h3 f1 f2 ⊢
      have fl : U[E - 1]? = some u := by
        by_cases hk : E = a + 1
        · rw [hk, Nat.add_sub_cancel]; exact h0
        · exact f1 (E - 1) (by omega) (by omega)
      have ih := fun p hq => mks_good U Mm hU hM hV st hS f E p hq (fun hx => .inr (fun hy => by
        rw [fl] at hy
        rw [hy] at f2
        exact f2 hx))
      by_cases hu : u = 0
      · rw [if_pos hu, List.nil_append]
        exact good_low (ih none (fun u' _ _ => by simp)) (by omega)
      · rw [if_neg hu]
        show GoodM Mm (a : Int) p (⟨(a : Int), (E : Int) - (a : Int), decide (u = 1)⟩ :: mks U f E)
        refine ⟨⟨Int.le_refl _, ⟨by show (0 : Int) ≤ (a : Int); omega, by show (1 : Int) ≤ (E : Int) - (a : Int); omega, by show (a : Int) + ((E : Int) - (a : Int)) ≤ 65536; omega⟩, fun _ => hp u h0 hu, fun hc => ?_⟩, ?_⟩
        · have hu1 : u = 1 := of_decide_eq_true hc
          subst hu1
          show wholeB ((Mm.drop ((a : Int)).toNat).take ((E : Int) - (a : Int)).toNat) = true
          rw [show ((a : Int)).toNat = a from by omega, show ((E : Int) - (a : Int)).toNat = E - a from by omega]
          refine whole_run U Mm st hS E f2 (by omega) (E - a) a (by omega) (fun k k1 k2 => ?_) (fun _ => hS.1 a h0 (ha h0))
          by_cases hk : k = a
          · rw [hk]; exact h0
          · exact f1 k (by omega) k2
        · show GoodM Mm ((a : Int) + ((E : Int) - (a : Int))) (some (decide (u = 1))) (mks U f E)
          rw [show (a : Int) + ((E : Int) - (a : Int)) = (E : Int) from by omega]
          refine ih _ (fun u' hu' hne => ?_)
          have hv' := hV E u' hu'
          have hne' : u' ≠ u := fun e => f2 (by rw [hu', e])
          intro e
          simp at e
          rcases hv with rfl | rfl | rfl
          · exact hu rfl
          · rcases hv' with rfl | rfl | rfl
            · exact hne rfl
            · exact hne' rfl
            · simp at e
          · rcases hv' with rfl | rfl | rfl
            · exact hne rfl
            · simp at e
            · exact hne' rfl
/-- The memory: what is written stays where nothing else is written. -/
theorem fil_len (N : List (ByteArray × Nat)) : ∀ (Z : List (Itm × Nat)) (M : List UInt8), (∀ z ∈ Z, z.2 + (flB N z.1).length ≤ M.length) → (filM N M Z).length = M.length
  | [], M, _ => rfl
  | z :: Z, M, h => by
    have hl := length_splice M z.2 (flB N z.1) (h z (by simp))
    show (filM N (splice M z.2 (flB N z.1)) Z).length = _
    rw [fil_len N Z _ (fun y hy => by rw [hl]; exact h y (by simp [hy])), hl]
theorem fil_keep (N : List (ByteArray × Nat)) : ∀ (Z : List (Itm × Nat)) (M : List UInt8), (∀ z ∈ Z, z.2 + (flB N z.1).length ≤ M.length) → ∀ a, (∀ z ∈ Z, ¬ (z.2 ≤ a ∧ a < z.2 + (flB N z.1).length)) → (filM N M Z)[a]? = M[a]?
  | [], M, _, a, _ => rfl
  | z :: Z, M, h, a, ha => by
    have hl := length_splice M z.2 (flB N z.1) (h z (by simp))
    show (filM N (splice M z.2 (flB N z.1)) Z)[a]? = _
    rw [fil_keep N Z _ (fun y hy => by rw [hl]; exact h y (by simp [hy])) a (fun y hy => ha y (by simp [hy])), spliceL_at _ _ _ (h z (by simp)), if_neg (ha z (by simp))]
theorem fil_at (N : List (ByteArray × Nat)) : ∀ (Z : List (Itm × Nat)) (M : List UInt8), (∀ z ∈ Z, z.2 + (flB N z.1).length ≤ M.length) → ∀ (j : Nat) (z : Itm × Nat) (a : Nat), Z[j]? = some z → z.2 ≤ a → a < z.2 + (flB N z.1).length → (∀ (j' : Nat) (y : Itm × Nat), j < j' → Z[j']? = some y → ¬ (y.2 ≤ a ∧ a < y.2 + (flB N y.1).length)) → (filM N M Z)[a]? = (flB N z.1)[a - z.2]?
  | [], M, _, j, z, a, h, _, _, _ => by simp at h
  | x :: Z, M, h, j, z, a, hj, h1, h2, hd => by
    have hl := length_splice M x.2 (flB N x.1) (h x (by simp))
    have h' : ∀ y ∈ Z, y.2 + (flB N y.1).length ≤ (splice M x.2 (flB N x.1)).length := fun y hy => by rw [hl]; exact h y (by simp [hy])
    show (filM N (splice M x.2 (flB N x.1)) Z)[a]? = _
    cases j with
    | zero =>
      simp at hj
      subst hj
      rw [fil_keep N Z _ h' a (fun y hy => by
        obtain ⟨k, hk⟩ := List.getElem?_of_mem hy
        exact hd (k + 1) y (by omega) (by simpa using hk)), spliceL_at _ _ _ (h x (by simp)), if_pos ⟨h1, h2⟩]
    | succ j =>
      simp at hj
      exact fil_at N Z _ h' j z a hj h1 h2 (fun j' y hlt hy => hd (j' + 1) y (by omega) (by simpa using hy))
theorem one_len : ∀ n : Nat, n < 256 → (fm n = 2 ∨ fm n = 3) → opOf (nm n) = some n → ∀ d : Nat, d < 16 → held n (fm n) + d ≤ lay (fm n * 3 + 2) → lay (fm (n + d) * 3) = 1 := by decide +kernel
/-- An instruction's first byte says how long it is. -/
theorem enc_first (S : ByteArray) (A : Int) (n : Nat) (ho : opOf S = some n) (h : may n A) : ∃ b : UInt8, (encL S A)[0]? = some b ∧ insL b = lay (fm n * 3) := by
  have hn := opOf_lt ho
  have hb := encB_byte n hn.1 A h
  have hf := ins_form n hn.1
  unfold encL
  rw [ho]
  simp only
  have hz : ∀ z : Int, 0 ≤ z → z < 256 → (UInt8.ofNat z.toNat).toNat = z.toNat := fun z h0 h1 => by simp [UInt8.toNat_ofNat']; omega
  by_cases h1 : fm n ≤ 1 ∨ 3 < fm n
  · refine ⟨UInt8.ofNat n, ?_, ?_⟩
    · unfold encB
      rcases h1 with h1 | h1
      · rw [if_pos h1]; simp
      · rw [if_neg (by omega), if_neg (by omega)]
        split <;> simp
    · unfold insL
      rw [show (UInt8.ofNat n).toNat = n from by simp [UInt8.toNat_ofNat']; omega]
  · have h2 : fm n = 2 ∨ fm n = 3 := by omega
    have e : encB n A = [(n : Int) + (A - held n (fm n))] := by unfold encB; rw [if_neg (by omega), if_pos (by omega)]
    rw [e] at hb
    have hq := hb ((n : Int) + (A - held n (fm n))) (by simp)
    refine ⟨UInt8.ofNat ((n : Int) + (A - held n (fm n))).toNat, by rw [e]; rfl, ?_⟩
    unfold insL
    rw [hz _ hq.1 hq.2]
    obtain ⟨d, hd⟩ : ∃ d : Nat, A = (held n (fm n) : Int) + (d : Int) := ⟨(A - held n (fm n)).toNat, by have := h.1; omega⟩
    have h3 := h.2
    rw [show ((n : Int) + (A - held n (fm n))).toNat = n + d from by omega]
    have hd2 : held n (fm n) + d ≤ lay (fm n * 3 + 2) := by omega
    have hl15 : lay (fm n * 3 + 2) ≤ 15 := by
      rcases h2 with h2 | h2 <;> rw [h2] <;> decide +kernel
    rw [one_len n hn.1 h2 (by rw [hn.2]; exact ho) d (by omega) hd2]
    rcases hf with ⟨f1, _⟩ | ⟨_, f1⟩ | ⟨_, f1⟩
    · exact f1.symm
    · omega
    · omega
end Go.Proofs.YthbdpceobnkflaaDoor
