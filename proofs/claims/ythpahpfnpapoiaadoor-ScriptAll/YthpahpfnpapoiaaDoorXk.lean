/- Lists that came out, side by side: written into, grown. -/
import Derived.Test.YthpahpfnpapoiaaDoorXh
import Derived.Test.YthpahpfnpapoiaaDoorXf
namespace Go.Proofs.YthpahpfnpapoiaaDoor
open Go Go.RowKit
set_option linter.unusedVariables false
set_option maxHeartbeats 400000
set_option maxRecDepth 20000

def zeroA : At := ⟨0, false, false, false, false, false, false, false, 0⟩
theorem builtS (x : Int) : Tryd.prog.built 34 [(0, .int .i64 x)] = some (spC ⟨x, zeroA⟩) := by kernel_rfl
theorem sizeS : (Tryd.prog.info? 34).map (·.size) = some 10 := by kernel_rfl
theorem bx_range {y : World} {g : Nat} {r : List Sn} (h : Bx y g (rowS r).toArray 34) (j : Nat) (s : Sn) (hj : r[j]? = some s) : y.rangeAt g (0 + j * 10) (spC s).toList := fun i v hv => by
  have hi : i < 10 := by have := (List.getElem?_eq_some_iff.1 hv).1; simpa [spC_size] using this
  rw [Array.getElem?_toList] at hv
  rw [cell_heap h, List.getElem?_toArray, Nat.zero_add, rowS_at r j i s hj hi]
  exact hv
theorem rowS_set (x : List Sn) : ∀ (k : Nat) (s : Sn), k < x.length → rowS (x.set k s) = splice (rowS x) (k * 10) (spC s).toList := by
  induction x with
  | nil => intro k s h; simp at h
  | cons t x ih =>
    intro k s h
    cases k with
    | zero =>
      simp only [List.set_cons_zero, rowS, splice, Nat.zero_mul, List.take_zero, List.nil_append, Nat.zero_add]
      rw [show (spC s).toList.length = (spC t).toList.length from rfl, List.drop_left]
    | succ k =>
      simp only [List.length_cons] at h
      simp only [List.set_cons_succ, rowS]
      rw [ih k s (by omega)]
      unfold splice
      have e : (spC t).toList.length = 10 := rfl
      rw [show (k + 1) * 10 = (spC t).toList.length + k * 10 by rw [e]; omega, List.take_length_add_append, List.append_assoc, Nat.add_assoc, List.drop_length_add_append]
theorem take_splice (L : List Value) (off m : Nat) (cs : List Value) (h : off + cs.length ≤ m) (hm : m ≤ L.length) : (splice L off cs).take m = splice (L.take m) off cs := by
  apply List.ext_getElem?
  intro k
  rw [List.getElem?_take, splice_at L off cs (by omega), splice_at (L.take m) off cs (by rw [List.length_take]; omega), List.getElem?_take]
  by_cases h1 : k < m
  · rw [if_pos h1, if_pos h1]
  · rw [if_neg h1, if_neg h1, if_neg (by omega)]
theorem OwnS.set {B : Nat} {w : World} {g n cap : Nat} {x : List Sn} (h : OwnS B w (.slice (some ⟨g, 0, none⟩) n cap) x) (k : Nat) (hk : k < x.length) (s : Sn) : OwnS B (w.setCells g (k * 10) (spC s).toList) (.slice (some ⟨g, 0, none⟩) n cap) (x.set k s) ∧ w.there g (k * 10) (spC s).size ∧ B ≤ g := by
  obtain ⟨h1, h2⟩ := h
  rcases h2 with ⟨h0, _⟩ | ⟨g', cap', cur, hv, hb, hg, hn, hm, hs, ht⟩
  · simp at h0
  · simp at hv
    obtain ⟨rfl, hn', rfl⟩ := hv
    have hl : (spC s).toList.length = 10 := rfl
    have hcl : cur.toList.length = cap * 10 := by rw [Array.length_toList]; exact hs
    refine ⟨⟨by rw [rowS_len], .inr ⟨g, cap, _, by rw [List.length_set, hn'], hb, heap_setCells g _ _ _ w cur hg (by rw [hl, hs]; omega), by rw [List.length_set]; exact hn, hm, ?_, ?_⟩⟩, fun j hj => ?_, hb⟩
    · have := length_splice cur.toList (k * 10) (spC s).toList (by rw [hl, hcl]; omega)
      rw [List.size_toArray, this, hcl]
    · rw [List.length_set, rowS_set x k s hk, ← ht]
      exact take_splice cur.toList (k * 10) (x.length * 10) _ (by rw [hl]; omega) (by rw [hcl]; omega)
    · rw [spC_size] at hj
      refine ⟨?_, frozen_heap hg _⟩
      rw [cell_heap hg, Array.getElem?_eq_getElem (by rw [hs]; omega)]
      rfl
/-- Lists side by side, no two in one block. -/
structure Fam (B : Nat) (y : World) (vs : List Value) (X : List (List Sn)) : Prop where
  len : vs.length = X.length
  own : ∀ (j : Nat) (v : Value) (x : List Sn), vs[j]? = some v → X[j]? = some x → OwnS B y v x
  ap : ∀ (i j : Nat) (v u : Value) (g : Nat), i ≠ j → vs[i]? = some v → vs[j]? = some u → v.ownBlock = some g → u.ownBlock ≠ some g
theorem Fam.below {B : Nat} {y z : World} {vs : List Value} {X : List (List Sn)} (h : Fam B y vs X) (hb : Below y.heap.size y z) : Fam B z vs X := ⟨h.len, fun j v x e1 e2 => (h.own j v x e1 e2).below hb, h.ap⟩
theorem set_get {α : Type} {l : List α} {i j : Nat} {a b : α} (h : (l.set i a)[j]? = some b) : (j = i ∧ b = a) ∨ (j ≠ i ∧ l[j]? = some b) := by
  by_cases hj : i = j
  · subst hj
    rw [List.getElem?_set] at h
    by_cases hl : i < l.length
    · simp [hl] at h; exact .inl ⟨rfl, h.symm⟩
    · simp [hl] at h
  · rw [List.getElem?_set_ne hj] at h; exact .inr ⟨fun e => hj e.symm, h⟩
theorem set_id {α : Type} {l : List α} {i : Nat} {a : α} (h : l[i]? = some a) : l.set i a = l := by
  apply List.ext_getElem?
  intro k
  by_cases hk : i = k
  · subst hk
    rw [List.getElem?_set_self (List.getElem?_eq_some_iff.1 h).1, h]
  · rw [List.getElem?_set_ne hk]
/-- One of them turned, its block the old one or a new one. -/
theorem Fam.turn {B : Nat} {y z : World} {vs : List Value} {X : List (List Sn)} (h : Fam B y vs X) (i : Nat) (v v' : Value) (x' : List Sn) (hi : vs[i]? = some v) (ho : OwnS B z v' x')
    (hn : ∀ g, v'.ownBlock = some g → v.ownBlock = some g ∨ y.heap.size ≤ g) (hk : ∀ g, g < y.heap.size → v.ownBlock ≠ some g → (∃ c, y.heap[g]? = some (.cells c 34 (0, 0))) → z.heap[g]? = y.heap[g]?) : Fam B z (vs.set i v') (X.set i x') := by
  have hlt : ∀ (j : Nat) (u : Value) (x : List Sn), vs[j]? = some u → X[j]? = some x → ∀ g, u.ownBlock = some g → g < y.heap.size := fun j u x e1 e2 g e => (World.ownsRow.lt (h.own j u x e1 e2) g e).2
  have hx : ∀ (j : Nat) (u : Value), vs[j]? = some u → ∃ x, X[j]? = some x := fun j u e => ⟨_, List.getElem?_eq_getElem (by have := (List.getElem?_eq_some_iff.1 e).1; rw [h.len] at this; exact this)⟩
  refine ⟨by simp [h.len], fun j u x e1 e2 => ?_, fun a b u t g hab e1 e2 e3 => ?_⟩
  · rcases set_get e1 with ⟨rfl, rfl⟩ | ⟨hj, e1⟩
    · rcases set_get e2 with ⟨_, rfl⟩ | ⟨hj2, _⟩
      · exact ho
      · exact absurd rfl hj2
    · rcases set_get e2 with ⟨hj2, _⟩ | ⟨_, e2⟩
      · exact absurd hj2 hj
      · have hown := h.own j u x e1 e2
        refine ⟨hown.1, ?_⟩
        rcases hown.2 with h0 | ⟨g, cap, cur, hv, hB, hg, hr⟩
        · exact .inl h0
        · exact .inr ⟨g, cap, cur, hv, hB, (hk g (heap_lt hg) (fun e => h.ap i j v u g (Ne.symm hj) hi e1 e (by rw [hv]; rfl)) ⟨_, hg⟩).trans hg, hr⟩
  · rcases set_get e1 with ⟨rfl, rfl⟩ | ⟨ha, f1⟩ <;> rcases set_get e2 with ⟨rfl, rfl⟩ | ⟨hb, f2⟩
    · exact absurd rfl hab
    · intro e4
      obtain ⟨x, hx⟩ := hx b t f2
      rcases hn g e3 with e5 | e5
      · exact h.ap a b v t g hab hi f2 e5 e4
      · have := hlt b t x f2 hx g e4; omega
    · intro e4
      obtain ⟨x, hx⟩ := hx a u f1
      rcases hn g e4 with e5 | e5
      · exact h.ap b a v u g (Ne.symm hab) hi f1 e5 e3
      · have := hlt a u x f1 hx g e3; omega
    · exact h.ap a b u t g hab f1 f2 e3
theorem Fam.app {B : Nat} {y w' : World} {vs : List Value} {X : List (List Sn)} {o : Obj} {x : List Sn} {s : Sn} {v v' : Value} (h : Fam B y vs X) (i : Nat) (hi : vs[i]? = some v) (a : App1 B v x s v' (y.alloc o) w') : Fam B w' (vs.set i v') (X.set i (x ++ [s])) :=
  (h.below (below1 y o)).turn i v v' _ hi a.own a.new fun g hg hne _ => a.cu.blk g hg fun j hF => hne hF.1
theorem Fam.put {B : Nat} {y : World} {vs : List Value} {X : List (List Sn)} {x : List Sn} {g n cap : Nat} (h : Fam B y vs X) (i : Nat) (hi : vs[i]? = some (.slice (some ⟨g, 0, none⟩) n cap)) (hx : X[i]? = some x) (k : Nat) (hk : k < x.length) (s : Sn) : Fam B (y.setCells g (k * 10) (spC s).toList) vs (X.set i (x.set k s)) := by
  have ho := (h.own i _ x hi hx).set k hk s
  have := h.turn i _ (.slice (some ⟨g, 0, none⟩) n cap) (x.set k s) hi ho.1 (fun q e => .inl e) (fun q hq hne _ => setCells_other g q (fun e => hne (by rw [e]; rfl)) _ _ _)
  rwa [set_id hi] at this
end Go.Proofs.YthpahpfnpapoiaaDoor
