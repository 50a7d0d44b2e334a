/- What Assemble answers. A laid source: what lies at each address, by plain mathematics. An assembled source's object is one: the whole of it, by plain mathematics. How many bytes an assembled source's object has: by plain mathematics. The labels of an assembled source's object are found where they were put: by plain mathematics. The statements' own: items that are too many; how many bytes an object has. A branch alone: what the plain assembler makes of it. Marks of one run of code, of any length. The statements' own first source: what the plain assembler makes of it. A branch alone: the statement's own walk. -/
import Derived.Test.YthbdpceobnkflaaDoorJ22
import Derived.Test.YthbdpceobnkflaaDoorJ20
import Derived.Test.YthbdpceobnkflaaDoorJ11
import Derived.Test.YthbdpceobnkflaaDoorJ7
import Derived.Test.YthbdpceobnkflaaDoorJ14
namespace Go.Proofs.YthbdpceobnkflaaDoor
open Go Go.RowKit
set_option linter.unusedVariables false
set_option maxHeartbeats 1000000
set_option maxRecDepth 20000

/-- What Assemble answers, in memory: why not, and of which item; or the object. -/
def AsE (w : World) (L : List Itm) (e : Ending) (z : World) : Prop :=
  (∃ E n : Int, e = .returned (.tuple #[.agg (oC zO), .int .i64 E, .int .i64 n]) ∧ Hid (Below w.heap.size w z ∧ BadA L sh0 E n)) ∨
  (∃ x : Oo, e = .returned (.tuple #[.agg (oC x), .int .i64 0, .int .i64 0]) ∧ Hid (Below w.heap.size w z ∧ Lco z x ∧ checkE (L.map (·.1)) = 0 ∧ layE sh0 (L.map (·.1)) 0 = none ∧ filE (asmN L) (zipP L) 0 = none ∧ plB x.B = blksF (asmMem L) [] (-1) (marksU (asmU L)) ∧ x.M = marksU (asmU L) ∧ x.L = sortN (asmN L)))
theorem assemble_any (w : World) (T : Hid (Tabs w)) (sp : Option Addr) (cap : Nat) (L : List Itm) (hl : Hid (LiesL 6 c6 w sp (L.map (·.1)))) (hg : Hid (∀ x ∈ L, LB8 w x.1.sp x.2 ∧ x.2.length = x.1.m)) (hn : L.length ≤ 9223372036854775807) :
    Calls Tryd.prog 8 #[.slice sp L.length cap] w (AsE w L) :=
  assemble_core ⟨zL⟩ w T sp cap L hl hg hn sh0 ⟨sh0_ok, rfl⟩ (List.replicate 65536 0) List.length_replicate (fun u => newSheet_any u) (AsE w L)
    (fun z E n h1 h2 => .inl ⟨E, n, rfl, h1, h2⟩) (fun x z h1 h2 h3 h4 h5 h6 h7 h8 => .inr ⟨x, rfl, h1, h2, h3, h4, h5, h6, h7, h8⟩)
end Go.Proofs.YthbdpceobnkflaaDoor

namespace Go.Proofs.YthbdpceobnkflaaDoor
open Go Go.RowKit
set_option linter.unusedVariables false
set_option maxHeartbeats 1000000
set_option maxRecDepth 20000

/-- An item that takes up addresses. -/
def takesA (r : Ri) : Prop := ¬ r.k = 1 ∧ ¬ r.k = 4
theorem lay_cons {s : Sh} {r : Ri} {l : List Ri} {i : Nat} (h : layE s (r :: l) i = none) : stE s r = 0 ∧ layE (stS s r) l (i + 1) = none := by
  unfold layE at h
  split at h
  · rename_i h0; exact ⟨h0, h⟩
  · cases h
theorem st_U {s : Sh} {r : Ri} (h : takesA r) : stE s r = clE s (szN r) ∧ stS s r = clS s (szN r) (useI r) := by
  unfold stE stS
  rw [if_neg h.1, if_neg h.2, if_neg h.1, if_neg h.2]
  exact ⟨rfl, rfl⟩
/-- The labels: each one called so but once. -/
theorem lay_names : ∀ (l : List Ri) (s : Sh) (i : Nat), s.Ok → (∀ r ∈ l, mayI r = true) → layE s l i = none → NmIn s.N → s.N.Pairwise (fun a b => a.1 ≠ b.1) → NmIn (layS s l).N ∧ (layS s l).N.Pairwise (fun a b => a.1 ≠ b.1)
  | [], s, i, _, _, _, h, h' => ⟨h, h'⟩
  | x :: l, s, i, hs, hm, hE, h, h' => by
    obtain ⟨h0, hE'⟩ := lay_cons hE
    refine lay_names l (stS s x) (i + 1) (hs.st (hm x (by simp)) h0) (fun r hr => hm r (by simp [hr])) hE' (nm_st h (hm x (by simp)) h0) ?_
    by_cases hk : x.k = 1
    · unfold stE at h0
      rw [if_pos hk] at h0
      unfold stS
      rw [if_pos hk]
      refine List.Pairwise.cons (fun y hy e => ?_) h'
      exact look_none (nmE_zero h0).2 (List.mem_map.2 ⟨y, hy, e.symm⟩)
    · unfold stS
      rw [if_neg hk]
      split
      · exact h'
      · exact h'
end Go.Proofs.YthbdpceobnkflaaDoor

namespace Go.Proofs.YthbdpceobnkflaaDoor
open Go Go.RowKit
set_option linter.unusedVariables false
set_option maxHeartbeats 1000000
set_option maxRecDepth 20000

/-- A source that was assembled. -/
structure AsmOk (L : List Itm) : Prop where
  c : checkE (L.map (·.1)) = 0
  l : layE sh0 (L.map (·.1)) 0 = none
  f : filE (asmN L) (zipP L) 0 = none
  g : ∀ x ∈ L, x.2.length = x.1.m
/-- An item and its place. -/
def AtJ (L : List Itm) (j : Nat) (x : Itm) (p : Nat) : Prop := L[j]? = some x ∧ (plcs sh0 (L.map (·.1)))[j]? = some p
theorem AtJ.r {L : List Itm} {j : Nat} {x : Itm} {p : Nat} (h : AtJ L j x p) : (L.map (·.1))[j]? = some x.1 := by rw [List.getElem?_map, h.1]; rfl
theorem AtJ.z {L : List Itm} {j : Nat} {x : Itm} {p : Nat} (h : AtJ L j x p) : (zipP L)[j]? = some (x, p) := by
  unfold zipP
  rw [List.getElem?_zip_eq_some]
  exact h
theorem fil_none (N : List (ByteArray × Nat)) : ∀ (Z : List (Itm × Nat)) (i : Nat), filE N Z i = none → ∀ z ∈ Z, flE N z.2 z.1.1 = 0
  | [], i, _, z, hz => by cases hz
  | y :: Z, i, h, z, hz => by
    unfold filE at h
    split at h
    · rename_i h0
      rcases List.mem_cons.1 hz with rfl | hz
      · exact h0
      · exact fil_none N Z (i + 1) h z hz
    · cases h
section
variable {L : List Itm} (H : AsmOk L)
include H
theorem AsmOk.may {j : Nat} {x : Itm} {p : Nat} (h : AtJ L j x p) : mayI x.1 = true := (check_may H.c).2 x.1 (List.mem_of_getElem? h.r)
theorem AsmOk.all : ∀ r ∈ L.map (·.1), mayI r = true := (check_may H.c).2
theorem AsmOk.len {j : Nat} {x : Itm} {p : Nat} (h : AtJ L j x p) : (flB (asmN L) x).length = (if x.1.k = 1 ∨ x.1.k = 4 then 0 else szN x.1) :=
  flB_len (asmN L) x p (H.may h) (H.g x (List.mem_of_getElem? h.1)) (fil_none _ _ 0 H.f (x, p) (List.mem_of_getElem? h.z))
theorem AsmOk.fits {j : Nat} {x : Itm} {p : Nat} (h : AtJ L j x p) : p + (flB (asmN L) x).length ≤ 65536 := by
  have hf := lay_fits _ sh0 0 sh0_ok H.all H.l j x.1 p h.r h.2
  rw [H.len h]
  by_cases hk : x.1.k = 1 ∨ x.1.k = 4
  · rw [if_pos hk]; exact hf.1
  · rw [if_neg hk]; exact hf.2.resolve_left hk
end
end Go.Proofs.YthbdpceobnkflaaDoor

namespace Go.Proofs.YthbdpceobnkflaaDoor
open Go Go.RowKit
set_option linter.unusedVariables false
set_option maxHeartbeats 1000000
set_option maxRecDepth 20000

def sizesN (l : List Ri) : Nat := (l.map (fun r => if r.k = 1 ∨ r.k = 4 then 0 else szN r)).sum
end Go.Proofs.YthbdpceobnkflaaDoor

namespace Go.Proofs.YthbdpceobnkflaaDoor
open Go Go.RowKit
set_option linter.unusedVariables false
set_option maxHeartbeats 1000000
set_option maxRecDepth 20000

theorem look_iff {N : List (ByteArray × Nat)} (hd : N.Pairwise (fun a b => a.1 ≠ b.1)) (s : ByteArray) (t : Nat) : lookN N s = some t ↔ (s, t) ∈ N := by
  induction N with
  | nil => simp [lookN]
  | cons x r ih =>
    obtain ⟨h1, h2⟩ := List.pairwise_cons.1 hd
    have ih := ih h2
    unfold lookN
    by_cases hs : s = x.1
    · rw [if_pos hs]
      constructor
      · intro e
        simp at e
        rw [hs, ← e]
        simp
      · intro hm
        rcases List.mem_cons.1 hm with e | hm
        · rw [← e]
        · exact absurd hs.symm (h1 _ hm)
    · rw [if_neg hs, ih]
      constructor
      · exact fun h => List.mem_cons_of_mem _ h
      · intro hm
        rcases List.mem_cons.1 hm with e | hm
        · exact absurd (by rw [← e]) hs
        · exact hm
theorem find_mem {l : List La} (hd : l.Pairwise (fun a b => a.n ≠ b.n)) (s : ByteArray) (a : Int) : findL l s = some a ↔ (⟨s, a⟩ : La) ∈ l := by
  induction l with
  | nil => simp [findL]
  | cons x r ih =>
    obtain ⟨h1, h2⟩ := List.pairwise_cons.1 hd
    have ih := ih h2
    unfold findL
    by_cases hs : x.n = s
    · rw [if_pos hs]
      constructor
      · intro e
        simp at e
        rw [← hs, ← e]
        simp
      · intro hm
        rcases List.mem_cons.1 hm with e | hm
        · rw [← e]
        · exact absurd hs (h1 _ hm)
    · rw [if_neg hs, ih]
      constructor
      · exact fun h => List.mem_cons_of_mem _ h
      · intro hm
        rcases List.mem_cons.1 hm with e | hm
        · exact absurd (by rw [← e]) hs
        · exact hm
theorem find_sort (N : List (ByteArray × Nat)) (hd : N.Pairwise (fun a b => a.1 ≠ b.1)) (s : ByteArray) : findL (sortN N) s = (lookN N s).map (fun (t : Nat) => (t : Int)) := by
  have hperm : (sortN N).Perm (N.map toLa) := List.mergeSort_perm _ _
  have hd' : (N.map toLa).Pairwise (fun a b => a.n ≠ b.n) := by rw [List.pairwise_map]; exact hd
  have hd2 : (sortN N).Pairwise (fun a b => a.n ≠ b.n) := (hperm.pairwise_iff (fun {a b} h => h.symm)).2 hd'
  apply Option.ext
  intro a
  rw [find_mem hd2, hperm.mem_iff, List.mem_map, Option.map_eq_some_iff]
  constructor
  · rintro ⟨x, hx, e⟩
    have e1 : x.1 = s := congrArg La.n e
    have e2 : (x.2 : Int) = a := congrArg La.a e
    refine ⟨x.2, (look_iff hd s x.2).2 (by rw [← e1]; exact hx), e2⟩
  · rintro ⟨t, ht, e⟩
    exact ⟨(s, t), (look_iff hd s t).1 ht, by rw [← e]; rfl⟩
theorem AsmOk.find {L : List Itm} (H : AsmOk L) (s : ByteArray) : findL (sortN (asmN L)) s = (lookN (asmN L) s).map (fun (t : Nat) => (t : Int)) :=
  find_sort (asmN L) (lay_names _ sh0 0 sh0_ok H.all H.l (fun y hy => by cases hy) List.Pairwise.nil).2 s
theorem AsmOk.labels {L : List Itm} (H : AsmOk L) : (sortN (asmN L)).length = (asmN L).length := by
  have hperm : (sortN (asmN L)).Perm ((asmN L).map toLa) := List.mergeSort_perm _ _
  rw [hperm.length_eq, List.length_map]
/-- A label's name is known from its item on, and lies where the item stands. -/
theorem lay_look : ∀ (l : List Ri) (s : Sh) (i : Nat), s.Ok → (∀ r ∈ l, mayI r = true) → layE s l i = none → ∀ x ∈ s.N, x ∈ (layS s l).N
  | [], s, i, _, _, _, x, hx => hx
  | r :: l, s, i, hs, hm, hE, x, hx => by
    obtain ⟨h0, h1⟩ := lay_cons hE
    refine lay_look l (stS s r) (i + 1) (hs.st (hm r (by simp)) h0) (fun r hr => hm r (by simp [hr])) h1 x ?_
    unfold stS
    split
    · exact List.mem_cons_of_mem _ hx
    · split
      · exact hx
      · exact hx
theorem lay_labelAt : ∀ (l : List Ri) (s : Sh) (i : Nat), s.Ok → (∀ r ∈ l, mayI r = true) → layE s l i = none → ∀ (j : Nat) (r : Ri) (p : Nat), l[j]? = some r → (plcs s l)[j]? = some p → r.k = 1 → (r.n, p) ∈ (layS s l).N
  | [], s, i, _, _, _, j, r, p, h, _, _ => by simp at h
  | x :: l, s, i, hs, hm, hE, j, r, p, hj, hp, hk => by
    obtain ⟨h0, h1⟩ := lay_cons hE
    have hs' := hs.st (hm x (by simp)) h0
    have hm' : ∀ r ∈ l, mayI r = true := fun r hr => hm r (by simp [hr])
    cases j with
    | zero =>
      simp [plcs] at hj hp
      subst hj hp
      show (x.n, s.p) ∈ (layS (stS s x) l).N
      refine lay_look l (stS s x) (i + 1) hs' hm' h1 _ ?_
      unfold stS
      rw [if_pos hk]
      exact List.mem_cons_self ..
    | succ j =>
      simp [plcs] at hj hp
      exact lay_labelAt l (stS s x) (i + 1) hs' hm' h1 j r p hj hp hk
theorem AsmOk.label {L : List Itm} (H : AsmOk L) {j : Nat} {x : Itm} {p : Nat} (h : AtJ L j x p) (hk : x.1.k = 1) : findL (sortN (asmN L)) x.1.n = some (p : Int) := by
  have hd : (asmN L).Pairwise (fun a b => a.1 ≠ b.1) := (lay_names _ sh0 0 sh0_ok H.all H.l (fun y hy => by cases hy) List.Pairwise.nil).2
  rw [H.find, (look_iff hd x.1.n p).2 (lay_labelAt _ sh0 0 sh0_ok H.all H.l j x.1 p h.r h.2 hk)]
  rfl
end Go.Proofs.YthbdpceobnkflaaDoor

namespace Go.Proofs.YthbdpceobnkflaaDoor
open Go Go.RowKit
set_option linter.unusedVariables false
set_option maxHeartbeats 3000000
set_option maxRecDepth 20000

def VsE (w : World) (l : List Ri) (e : Ending) (w' : World) : Prop := ∃ b, e = .returned (.bool b) ∧ Hid (Below w.heap.size w w' ∧ (b = false → l.length ≤ 2147483647 ∧ ∀ r ∈ l, r.m ≤ 2147483647))
theorem vast14_any (w : World) (sp : Option Addr) (cap : Nat) (l : List Ri) (hl : Hid (LiesL 6 c6 w sp l)) (hn : l.length ≤ 140737488355328) (hm : ∀ r ∈ l, r.m ≤ 140737488355328) :
    Calls Tryd.prog 6 #[.slice sp l.length cap] w (VsE w l) := by
  obtain ⟨n, hn'⟩ : ∃ n, l.length = n := ⟨_, rfl⟩
  have hnn : Hid (l.length = n) := hn'
  rw [hn'] at hn ⊢
  have n1 : (n : Int) ≤ 140737488355328 := by omega
  have hmm : Hid (∀ x ∈ l, x.m ≤ 140737488355328) := hm
  have K0 : Hid (Below w.heap.size w w) := Below.refl _ _
  clear hn hn' hm
  go_enter Tryd.func6, Tryd.ntmps6
  go_wp2
  go_loopw [3, 4] (fun s t wz => ∃ (N : Int) (i : Nat) (y : World), y = wz ∧ s = .int .i64 N ∧ t = .int .i64 (i : Int) ∧ Hid (i ≤ n ∧ (n : Int) ≤ N ∧ N ≤ 562949953421312 ∧ ∀ x ∈ l.take i, (x.m : Int) ≤ N) ∧ Hid (Below w.heap.size w y)) (fun _ t _ => (n - intOf t).toNat)
  case atStart => exact ⟨(n : Int), 0, _, rfl, rfl, rfl, ⟨Nat.zero_le _, Int.le_refl _, by omega, fun x hx => by simp at hx⟩, K0⟩
  case round =>
    obtain ⟨N, i, y, rfl, rfl, rfl, J, K⟩ := hrel
    have N0 := J.out.2.1
    by_cases hbig : 2147483647 < N
    · by_cases hlt : i < n
      · have hii : (i : Int) < n := by omega
        go_wp2
        go_ret
        exact ⟨_, rfl, K.out, fun h => by simp at h⟩
      · have hie : i = n := by have := J.out.1; omega
        subst hie
        clear hlt
        go_wp2
        go_ret
        exact ⟨_, rfl, K.out, fun h => by simp at h⟩
    · by_cases hlt : i < n
      · obtain ⟨x, hx⟩ : ∃ x, l[i]? = some x := ⟨_, List.getElem?_eq_getElem (by rw [hnn.out]; exact hlt)⟩
        obtain ⟨gb, o, rfl, hcx⟩ := hl.out i x hx
        have hxm := hmm.out x (List.mem_of_getElem? hx)
        have c1 := range_keep hcx K.out 5 (.slice x.sp x.m x.cap) rfl
        have ij := fun w => idxP (P := Tryd.prog) (g := gb) (off := o) (len := n) (cap := cap) Tryd.underlying22 (s := 6) (by kernel_rfl) .i64 i w hlt
        have hii : (i : Int) < n := by omega
        have hlt' : Hid (i < n) := hlt
        have J9 : Hid (i + 1 ≤ n ∧ (n : Int) ≤ N + x.m ∧ N + x.m ≤ 562949953421312 ∧ ∀ q ∈ l.take (i + 1), (q.m : Int) ≤ N + x.m) := by
          refine ⟨hlt, by omega, by omega, fun q hq => ?_⟩
          rw [List.take_add_one, hx] at hq
          rcases List.mem_append.1 hq with h | h
          · have := J.out.2.2.2 q h; omega
          · simp at h
            subst h
            omega
        obtain ⟨L, hL⟩ : ∃ L, x.m = L := ⟨_, rfl⟩
        rw [hL] at J9 c1 hxm
        have Li : (L : Int) ≤ 140737488355328 := by omega
        have wl : IntKind.i64.wrap (N + L) = N + L := by rw [IntKind.wrap_i64]; omega
        clear hlt hx hcx hL hxm J
        go_wp2
        go_roundw
        case rel => exact ⟨_, i + 1, _, rfl, rfl, by simp, J9, K⟩
        case measure => have := hlt'.out; simp [intOf]; omega
      · have hie : i = n := by have := J.out.1; omega
        subst hie
        clear hlt
        go_wp2
        go_ret
        refine ⟨_, rfl, K.out, fun h => ?_⟩
        have h2 := J.out.2.2.2
        rw [List.take_of_length_le (by rw [hnn.out]; exact Nat.le_refl _)] at h2
        exact ⟨by rw [hnn.out]; omega, fun x hx => by have := h2 x hx; omega⟩
end Go.Proofs.YthbdpceobnkflaaDoor

namespace Go.Proofs.YthbdpceobnkflaaDoor
open Go Go.RowKit
set_option linter.unusedVariables false
set_option maxHeartbeats 1000000
set_option maxRecDepth 20000

theorem rEnd_eq (U : List UInt8) (u : UInt8) (e' : Nat) (hs : U[e']? ≠ some u) : ∀ (d e : Nat), e + d = e' → (∀ k, e ≤ k → k < e' → U[k]? = some u) → rEnd U u e = e'
  | 0, e, h, _ => by
    obtain rfl : e = e' := by omega
    exact rEnd_stop hs
  | d + 1, e, h, hk => by
    rw [rEnd_step (hk e (Nat.le_refl _) (by omega))]
    exact rEnd_eq U u e' hs d (e + 1) (by omega) (fun k h1 h2 => hk k (by omega) h2)
end Go.Proofs.YthbdpceobnkflaaDoor

namespace Go.Proofs.YthbdpceobnkflaaDoor
open Go Go.RowKit
set_option linter.unusedVariables false
set_option maxHeartbeats 1000000
set_option maxRecDepth 20000

theorem marks_run (U : List UInt8) (A n : Nat) (hn : 1 ≤ n) (hA : A + n ≤ 65536) (hU : ∀ k, U[k]? = if A ≤ k ∧ k < A + n then some 1 else if k < 65536 then some 0 else none) : marksU U = [⟨(A : Int), (n : Int), true⟩] := by
  have tl : ∀ f, mks U (f + 2) (A + n) = [] := fun f => by
    by_cases h : A + n = 65536
    · unfold mks
      rw [hU, if_neg (by omega), if_neg (by omega)]
    · have e0 : rEnd U 0 (A + n + 1) = 65536 := rEnd_eq U 0 65536 (by rw [hU, if_neg (by omega), if_neg (by omega)]; simp) (65536 - (A + n + 1)) _ (by omega) (fun k h1 h2 => by rw [hU, if_neg (by omega), if_pos h2])
      unfold mks
      rw [hU, if_neg (by omega), if_pos (by omega)]
      simp only [if_true, List.nil_append]
      rw [e0]
      unfold mks
      rw [hU, if_neg (by omega), if_neg (by omega)]
  have e1 : rEnd U 1 (A + 1) = A + n := rEnd_eq U 1 (A + n) (by rw [hU, if_neg (by omega)]; split <;> simp) (n - 1) _ (by omega) (fun k h1 h2 => by rw [hU, if_pos (by omega)])
  have md : ∀ f, mks U (f + 3) A = [⟨(A : Int), (n : Int), true⟩] := fun f => by
    unfold mks
    rw [hU, if_pos (by omega)]
    simp only
    rw [if_neg (by decide), e1, tl f]
    simp only [List.append_nil, List.cons.injEq, Mk.mk.injEq, and_true, true_and, decide_true]
    omega
  have al : ∀ f, mks U (f + 4) 0 = [⟨(A : Int), (n : Int), true⟩] := fun f => by
    by_cases h : A = 0
    · subst h
      exact md (f + 1)
    · have e0 : rEnd U 0 (0 + 1) = A := rEnd_eq U 0 A (by rw [hU, if_pos (by omega)]; simp) (A - 1) _ (by omega) (fun k h1 h2 => by rw [hU, if_neg (by omega), if_pos (by omega)])
      unfold mks
      rw [hU, if_neg (by omega), if_pos (by omega)]
      simp only [if_true, List.nil_append]
      rw [e0]
      exact md f
  exact al 65532
end Go.Proofs.YthbdpceobnkflaaDoor

namespace Go.Proofs.YthbdpceobnkflaaDoor
open Go Go.RowKit
set_option linter.unusedVariables false
set_option maxHeartbeats 1000000
set_option maxRecDepth 20000

def aB : ByteArray := ⟨#[97]⟩
def aw0 : Ri := ⟨1, aB, 0, ⟨#[]⟩, 0, none, 0, 0⟩
def aw1 : Ri := ⟨2, ⟨#[76, 68, 73]⟩, 5, ⟨#[]⟩, 0, none, 0, 0⟩
def aw2 : Ri := ⟨2, ⟨#[66, 82]⟩, 0, aB, 1, none, 0, 0⟩
def awL : List Itm := [(aw0, []), (aw1, []), (aw2, [])]
theorem aw_may : mayI aw0 = true ∧ mayI aw1 = true ∧ mayI aw2 = true ∧ szN aw1 = 2 ∧ szN aw2 = 2 := by decide +kernel
theorem aw_check : checkE (awL.map (·.1)) = 0 := by decide +kernel
theorem aw_lay (U : List UInt8) (hL : U.length = 65536) (hU : ∀ x ∈ U, x = 0) :
    layE ⟨0, U, []⟩ (awL.map (·.1)) 0 = none ∧ layS ⟨0, U, []⟩ (awL.map (·.1)) = ⟨4, splice (splice U 0 (List.replicate 2 1)) 2 (List.replicate 2 1), [(aB, 0)]⟩ ∧ plcs ⟨0, U, []⟩ (awL.map (·.1)) = [0, 0, 2] := by
  obtain ⟨_, _, _, z1, z2⟩ := aw_may
  have a0 : stE ⟨0, U, []⟩ aw0 = 0 ∧ stS ⟨0, U, []⟩ aw0 = ⟨0, U, [(aB, 0)]⟩ := ⟨rfl, rfl⟩
  have any0 : ∀ (V : List UInt8) (p : Nat), (∀ k, p ≤ k → k < p + 2 → V[k]? = some 0) → ((V.drop p).take 2).any (fun u => decide (u ≠ 0)) = false := fun V p h => by
    rw [List.any_eq_false]
    intro x hx
    obtain ⟨k, hk⟩ := List.getElem?_of_mem hx
    rw [List.getElem?_take] at hk
    split at hk
    · rename_i hlt
      rw [List.getElem?_drop, h (p + k) (by omega) (by omega)] at hk
      simp at hk
      simp [← hk]
    · cases hk
  have u0 : ∀ k, k < 65536 → U[k]? = some 0 := fun k hk => by
    rw [List.getElem?_eq_getElem (by omega), hU _ (List.getElem_mem _)]
  have a1 : stE ⟨0, U, [(aB, 0)]⟩ aw1 = 0 ∧ stS ⟨0, U, [(aB, 0)]⟩ aw1 = ⟨2, splice U 0 (List.replicate 2 1), [(aB, 0)]⟩ := by
    obtain ⟨e1, e2⟩ := st_U (s := ⟨0, U, [(aB, 0)]⟩) (r := aw1) ⟨by decide, by decide⟩
    rw [e1, e2, z1]
    refine ⟨?_, rfl⟩
    unfold clE
    rw [if_neg (by simp only; omega), any0 U 0 (fun k _ h => u0 k (by omega))]
    rfl
  have a2 : stE ⟨2, splice U 0 (List.replicate 2 1), [(aB, 0)]⟩ aw2 = 0 ∧ stS ⟨2, splice U 0 (List.replicate 2 1), [(aB, 0)]⟩ aw2 = ⟨4, splice (splice U 0 (List.replicate 2 1)) 2 (List.replicate 2 1), [(aB, 0)]⟩ := by
    obtain ⟨e1, e2⟩ := st_U (s := ⟨2, splice U 0 (List.replicate 2 1), [(aB, 0)]⟩) (r := aw2) ⟨by decide, by decide⟩
    rw [e1, e2, z2]
    refine ⟨?_, rfl⟩
    unfold clE
    rw [if_neg (by simp only; omega), any0 _ 2 (fun k h1 h2 => by
      rw [spliceL_at _ _ _ (by rw [List.length_replicate, hL]; omega), List.length_replicate, if_neg (by omega)]
      exact u0 k (by omega))]
    rfl
  show layE ⟨0, U, []⟩ [aw0, aw1, aw2] 0 = none ∧ layS ⟨0, U, []⟩ [aw0, aw1, aw2] = _ ∧ plcs ⟨0, U, []⟩ [aw0, aw1, aw2] = _
  refine ⟨?_, ?_, ?_⟩
  · simp only [layE, a0.1, a0.2, a1.1, a1.2, a2.1, if_true]
  · simp only [layS, a0.2, a1.2, a2.2]
  · simp only [plcs, a0.2, a1.2]
theorem aw_fil : filE [(aB, 0)] (awL.zip [0, 0, 2]) 0 = none := by decide +kernel
theorem aw_bytes : flB [(aB, 0)] (aw0, []) = [] ∧ flB [(aB, 0)] (aw1, []) = [248, 5] ∧ flB [(aB, 0)] (aw2, []) = [48, 0] := by decide +kernel
/-- What the object is. -/
theorem aw_obj : AsmOk awL ∧ blksF (asmMem awL) [] (-1) (marksU (asmU awL)) = [(0, [248, 5, 48, 0])] ∧ marksU (asmU awL) = [⟨0, 4, true⟩] ∧ sortN (asmN awL) = [⟨aB, 0⟩] := by
  obtain ⟨R, hR⟩ : ∃ R, R = List.replicate 65536 (0 : UInt8) := ⟨_, rfl⟩
  have hRl : R.length = 65536 := by rw [hR, List.length_replicate]
  have hl := aw_lay R hRl (fun x hx => List.eq_of_mem_replicate (by rw [← hR]; exact hx))
  have h0 : sh0 = ⟨0, R, []⟩ := by rw [hR]; rfl
  rw [← h0] at hl
  have hN : asmN awL = [(aB, 0)] := by unfold asmN; rw [hl.2.1]
  have hU : asmU awL = splice (splice R 0 (List.replicate 2 1)) 2 (List.replicate 2 1) := by unfold asmU; rw [hl.2.1]
  have hZ : zipP awL = awL.zip [0, 0, 2] := by unfold zipP; rw [hl.2.2]
  have hok : AsmOk awL := ⟨aw_check, hl.1, by rw [hN, hZ]; exact aw_fil, fun x hx => by
    simp only [awL, List.mem_cons, List.not_mem_nil, or_false] at hx
    rcases hx with rfl | rfl | rfl <;> rfl⟩
  have hM : asmMem awL = splice (splice R 0 [248, 5]) 2 [48, 0] := by
    obtain ⟨b0, b1, b2⟩ := aw_bytes
    unfold asmMem
    rw [hN, hZ, ← hR]
    show filM [(aB, 0)] R [((aw0, []), 0), ((aw1, []), 0), ((aw2, []), 2)] = _
    simp only [filM, b0, b1, b2, splice_nil]
  have hK : marksU (asmU awL) = [⟨0, 4, true⟩] := by
    have := marks_run (asmU awL) 0 4 (by omega) (by omega) (fun k => by
      have l1 : (splice R 0 (List.replicate 2 (1 : UInt8))).length = 65536 := by rw [length_splice _ _ _ (by rw [List.length_replicate, hRl]; omega), hRl]
      rw [hU, spliceL_at _ _ _ (by rw [List.length_replicate, l1]; omega), List.length_replicate, spliceL_at _ _ _ (by rw [List.length_replicate, hRl]; omega), List.length_replicate]
      by_cases h4 : k < 4
      · rw [if_pos (by omega : 0 ≤ k ∧ k < 0 + 4)]
        by_cases h2 : 2 ≤ k
        · rw [if_pos (by omega), List.getElem?_replicate, if_pos (by omega)]
        · rw [if_neg (by omega), if_pos (by omega), List.getElem?_replicate, if_pos (by omega)]
      · rw [if_neg (by omega), if_neg (by omega), if_neg (by omega), hR, List.getElem?_replicate])
    exact this
  refine ⟨hok, ?_, hK, ?_⟩
  · rw [hK, hM]
    have e : ((splice (splice R 0 [248, 5]) 2 [48, 0]).drop 0).take 4 = [248, 5, 48, 0] := by
      have l1 : (splice R 0 [248, 5]).length = 65536 := by rw [length_splice _ _ _ (by simp [hRl]), hRl]
      apply List.ext_getElem?
      intro k
      rw [List.getElem?_take, List.drop_zero]
      by_cases hk : k < 4
      · rw [if_pos hk, spliceL_at _ _ _ (by simp [l1]), spliceL_at _ _ _ (by simp [hRl])]
        have : k = 0 ∨ k = 1 ∨ k = 2 ∨ k = 3 := by omega
        rcases this with rfl | rfl | rfl | rfl <;> rfl
      · rw [if_neg hk]
        symm
        rw [List.getElem?_eq_none_iff]
        simp
        omega
    have e' : segM (splice (splice R 0 [248, 5]) 2 [48, 0]) ⟨0, 4, true⟩ = [248, 5, 48, 0] := e
    unfold blksF bst
    rw [e']
    rfl
  · rw [hN]
    unfold sortN
    simp [toLa]
end Go.Proofs.YthbdpceobnkflaaDoor

namespace Go.Proofs.YthbdpceobnkflaaDoor
open Go Go.RowKit
set_option linter.unusedVariables false
set_option maxHeartbeats 3000000
set_option maxRecDepth 20000

theorem infoIt9 : (Tryd.prog.info? 40).map (fun i => (i.zero, i.size, i.bytes)) = some (some (.agg (i6 z0)), 6, 80) := by kernel_rfl
theorem lies_items {z : World} {g : Nat} {l : List Ri} {t : TypeId} (h : Bx z g (rowL c6 l).toArray t) : LiesL 6 c6 z (some ⟨g, 0, none⟩) l := fun j a hj => ⟨g, 0, rfl, bxL_range (c := c6) (fun x => rfl) h j a hj⟩
end Go.Proofs.YthbdpceobnkflaaDoor
