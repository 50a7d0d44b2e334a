/- Lists side by side: those of one call, and those of two. -/
import Derived.Test.YthpahpfnpapoiaaDoorXm
namespace Go.Proofs.YthpahpfnpapoiaaDoor
open Go Go.RowKit
set_option linter.unusedVariables false
set_option maxHeartbeats 1000000
set_option maxRecDepth 20000

theorem snoc_get {α : Type} {l : List α} {a b : α} {j : Nat} (h : (l ++ [a])[j]? = some b) : l[j]? = some b ∨ (j = l.length ∧ b = a) := by
  rcases Nat.lt_or_ge j l.length with hj | hj
  · rw [List.getElem?_append_left hj] at h
    exact .inl h
  · rw [List.getElem?_append_right hj] at h
    obtain ⟨k, rfl⟩ : ∃ k, j = l.length + k := ⟨j - l.length, by omega⟩
    rw [show l.length + k - l.length = k by omega] at h
    cases k with
    | zero => simp at h; exact .inr ⟨by omega, h.symm⟩
    | succ k => simp at h
theorem fam_nil (B : Nat) (y : World) : Fam B y [] [] := ⟨rfl, fun j v x e => by simp at e, fun i j v u g _ e => by simp at e⟩
/-- One more list beside those that stand. -/
theorem Fam.add {B : Nat} {y z : World} {vs : List Value} {X : List (List Sn)} {v : Value} {x : List Sn} (h : Fam B y vs X) (hy : B ≤ y.heap.size) (hb : Below y.heap.size y z) (ho : OwnS y.heap.size z v x) : Fam B z (vs ++ [v]) (X ++ [x]) := by
  have old : ∀ (i : Nat) (u : Value) (g : Nat), vs[i]? = some u → u.ownBlock = some g → g < y.heap.size := fun i u g e1 e2 => by
    obtain ⟨a, ha⟩ : ∃ a, X[i]? = some a := ⟨_, List.getElem?_eq_getElem (by rw [← h.len]; exact (List.getElem?_eq_some_iff.1 e1).1)⟩
    exact (World.ownsRow.lt (h.own i u a e1 ha) g e2).2
  have new : ∀ g, v.ownBlock = some g → y.heap.size ≤ g := fun g e => (World.ownsRow.lt ho g e).1
  refine ⟨by simp [h.len], fun j v' x' e1 e2 => ?_, fun i j v1 v2 g hij e1 e2 e3 e4 => ?_⟩
  · rcases snoc_get e1 with e1 | ⟨hj, rfl⟩
    · rcases snoc_get e2 with e2 | ⟨hj2, rfl⟩
      · exact (h.own j v' x' e1 e2).below hb
      · have := (List.getElem?_eq_some_iff.1 e1).1; have := h.len; omega
    · rcases snoc_get e2 with e2 | ⟨hj2, rfl⟩
      · have := (List.getElem?_eq_some_iff.1 e2).1; have := h.len; omega
      · exact ho.weak hy
  · rcases snoc_get e1 with f1 | ⟨hi, rfl⟩ <;> rcases snoc_get e2 with f2 | ⟨hj, rfl⟩
    · exact h.ap i j v1 v2 g hij f1 f2 e3 e4
    · have := old i v1 g f1 e3; have := new g e4; omega
    · have := old j v2 g f2 e4; have := new g e3; omega
    · omega
theorem Ct.fam1 {w y : World} {va vb : Value} {A B : List Sn} {bs : List (Nat × Array Value × TypeId)} (h : Ct w va vb A B bs y) : Fam w.heap.size y [va] [A] := by
  refine ⟨rfl, fun j v x e1 e2 => ?_, fun i j v u g hij e1 e2 => ?_⟩
  · rcases j with _ | j <;> simp at e1 e2
    subst e1
    subst e2
    exact h.oa
  · rcases i with _ | i <;> simp at e1
    rcases j with _ | j <;> simp at e2
    exact absurd rfl hij
theorem Ct.fam2 {w y : World} {va vb : Value} {A B : List Sn} {bs : List (Nat × Array Value × TypeId)} (h : Ct w va vb A B bs y) : Fam w.heap.size y [va, vb] [A, B] := by
  refine ⟨rfl, fun j v x e1 e2 => ?_, fun i j v u g hij e1 e2 e3 e4 => ?_⟩
  · rcases j with _ | _ | j <;> simp at e1 e2 <;> subst e1 <;> subst e2
    · exact h.oa
    · exact h.ob
  · rcases i with _ | _ | i <;> simp at e1 <;> rcases j with _ | _ | j <;> simp at e2 <;> subst e1 <;> subst e2
    · exact hij rfl
    · exact h.ap g e3 e4
    · exact h.ap g e4 e3
    · exact hij rfl
theorem Fam.join {B : Nat} {y z : World} {vs us : List Value} {X Y : List (List Sn)} (h : Fam B y vs X) (hy : B ≤ y.heap.size) (hb : Below y.heap.size y z) (k : Fam y.heap.size z us Y) : Fam B z (vs ++ us) (X ++ Y) := by
  have old : ∀ (i : Nat) (u : Value) (g : Nat), vs[i]? = some u → u.ownBlock = some g → g < y.heap.size := fun i u g e1 e2 => by
    obtain ⟨a, ha⟩ : ∃ a, X[i]? = some a := ⟨_, List.getElem?_eq_getElem (by rw [← h.len]; exact (List.getElem?_eq_some_iff.1 e1).1)⟩
    exact (World.ownsRow.lt (h.own i u a e1 ha) g e2).2
  have new : ∀ (i : Nat) (u : Value) (g : Nat), us[i]? = some u → u.ownBlock = some g → y.heap.size ≤ g := fun i u g e1 e2 => by
    obtain ⟨a, ha⟩ : ∃ a, Y[i]? = some a := ⟨_, List.getElem?_eq_getElem (by rw [← k.len]; exact (List.getElem?_eq_some_iff.1 e1).1)⟩
    exact (World.ownsRow.lt (k.own i u a e1 ha) g e2).1
  have hl := h.len
  refine ⟨by simp [h.len, k.len], fun j v x e1 e2 => ?_, fun i j v1 v2 g hij e1 e2 e3 e4 => ?_⟩
  · rcases Nat.lt_or_ge j vs.length with hj | hj
    · rw [List.getElem?_append_left hj] at e1
      rw [List.getElem?_append_left (by omega)] at e2
      exact (h.own j v x e1 e2).below hb
    · rw [List.getElem?_append_right hj] at e1
      rw [List.getElem?_append_right (by omega), ← hl] at e2
      exact (k.own _ v x e1 e2).weak hy
  · rcases Nat.lt_or_ge i vs.length with hi | hi <;> rcases Nat.lt_or_ge j vs.length with hj | hj
    · rw [List.getElem?_append_left hi] at e1
      rw [List.getElem?_append_left hj] at e2
      exact h.ap i j v1 v2 g hij e1 e2 e3 e4
    · rw [List.getElem?_append_left hi] at e1
      rw [List.getElem?_append_right hj] at e2
      have := old i v1 g e1 e3
      have := new _ v2 g e2 e4
      omega
    · rw [List.getElem?_append_right hi] at e1
      rw [List.getElem?_append_left hj] at e2
      have := old j v2 g e2 e4
      have := new _ v1 g e1 e3
      omega
    · rw [List.getElem?_append_right hi] at e1
      rw [List.getElem?_append_right hj] at e2
      exact k.ap _ _ v1 v2 g (by omega) e1 e2 e3 e4
theorem Fam.weak {B B' : Nat} {y : World} {vs : List Value} {X : List (List Sn)} (h : Fam B y vs X) (hB : B' ≤ B) : Fam B' y vs X := ⟨h.len, fun j v x e1 e2 => (h.own j v x e1 e2).weak hB, h.ap⟩
/-- What a call turned that wrote into one block only, and not into one of theirs. -/
theorem Fam.cu {B C g0 : Nat} {y z : World} {vs : List Value} {X : List (List Sn)} (h : Fam B y vs X) (u : Cu C (fun q _ => q = g0) y z) (hg : g0 < B) : Fam B z vs X :=
  ⟨h.len, fun j v x e1 e2 => (h.own j v x e1 e2).keepB fun g e => by
    obtain ⟨a, b⟩ := World.ownsRow.lt (h.own j v x e1 e2) g e
    exact u.blk g b fun _ hF => by omega, h.ap⟩
end Go.Proofs.YthpahpfnpapoiaaDoor
