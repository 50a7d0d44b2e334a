/- One cell of a row set; what is heard, before the walk. -/
import Derived.Test.YtdfjfacilbahkaaDoorUh
namespace Go.Proofs.YtdfjfacilbahkaaDoor
open Go Go.RowKit
set_option linter.unusedVariables false
set_option maxHeartbeats 1000000
set_option maxRecDepth 20000

section
variable {α : Type} {T t : TypeId} {s bts : Nat} {c : α → List Value}
theorem rowL_set1 (hc : ∀ x, (c x).length = s) (i : Nat) (v : Value) (hi : i < s) (x : List α) : ∀ (k : Nat) (a e : α), x[k]? = some a → c e = (c a).set i v → rowL c (x.set k e) = (rowL c x).set (k * s + i) v := by
  induction x with
  | nil => intro k a e h; simp at h
  | cons y x ih =>
    intro k a e h he
    cases k with
    | zero =>
      simp at h
      subst h
      rw [List.set_cons_zero, rowL_cons, rowL_cons, he, Nat.zero_mul, Nat.zero_add, List.set_append_left _ _ (by rw [hc]; exact hi)]
    | succ k =>
      simp only [List.getElem?_cons_succ] at h
      rw [List.set_cons_succ, rowL_cons, rowL_cons, ih k a e h he, List.set_append_right _ _ (by rw [hc, Nat.succ_mul]; omega), hc, show (k + 1) * s + i - s = k * s + i by rw [Nat.succ_mul]; omega]
/-- One cell of an owned row is set. -/
theorem OwnL.set1 (hc : ∀ x, (c x).length = s) {B : Nat} {w : World} {g n cap : Nat} {x : List α} (h : OwnL t s c B w (.slice (some ⟨g, 0, none⟩) n cap) x) (k i : Nat) (a e : α) (v : Value) (hk : x[k]? = some a) (hi : i < s) (he : c e = (c a).set i v) : OwnL t s c B (w.setCell ⟨g, k * s + i, none⟩ v) (.slice (some ⟨g, 0, none⟩) n cap) (x.set k e) ∧ w.frozen? ⟨g, k * s + i, none⟩ = false ∧ B ≤ g := by
  obtain ⟨h1, h2⟩ := h
  rcases h2 with ⟨h0, _⟩ | ⟨g', cap', cur, hv, hb, hg, hn, hm, hs, ht⟩
  · simp at h0
  · simp at hv
    obtain ⟨rfl, hn', rfl⟩ := hv
    refine ⟨⟨by rw [rowL_len hc], .inr ⟨g, cap, _, by rw [List.length_set, hn'], hb, heap_setCell_same w g (k * s + i) cur t v hg, by rw [List.length_set]; exact hn, hm, ?_, ?_⟩⟩, frozen_heap hg _, hb⟩
    · rw [Array.size_setIfInBounds]; exact hs
    · rw [List.length_set, rowL_set1 hc i v hi x k a e hk he, ← ht, Array.toList_setIfInBounds, List.take_set]
theorem KL.set1 (hc : ∀ x, (c x).length = s) {w y : World} {g n cap : Nat} {x : List α} (h : KL t s c w (.slice (some ⟨g, 0, none⟩) n cap) x y) (k i : Nat) (a e : α) (v : Value) (hk : x[k]? = some a) (hi : i < s) (he : c e = (c a).set i v) : KL t s c w (.slice (some ⟨g, 0, none⟩) n cap) (x.set k e) (y.setCell ⟨g, k * s + i, none⟩ v) := by
  have := h.own.set1 hc k i a e v hk hi he
  exact ⟨this.1, h.low.trans ((Below.refl _ _).setCell (p := ⟨g, k * s + i, none⟩) this.2.2 v)⟩
end
def rowsH (l : List Sn) : List (Bool × Int) := l.map fun s => (s.a.Ta, s.c)
/-- What is heard of a script, and the error. -/
def heardW (l : List Sn) : List (Int × Int) × Int := if checkS l = 0 then (hearW (rowsH l), 0) else ([], checkS l)
theorem last_set (out : List (Int × Int)) (m : Nat) (p q : Int × Int) (h : out[m]? = some p) (hm : out.length = m + 1) : out.dropLast ++ [q] = out.set m q := by
  have hne : out ≠ [] := fun e => by rw [e] at hm; simp at hm
  obtain ⟨d, z, rfl⟩ : ∃ d z, out = d ++ [z] := ⟨out.dropLast, out.getLast hne, (List.dropLast_concat_getLast hne).symm⟩
  have hd : d.length = m := by simpa using hm
  rw [List.dropLast_concat, List.set_append_right _ _ (by omega), hd, Nat.sub_self]
  rfl
theorem hear_on_on (n : Int) (l : List (Bool × Int)) (out : List (Int × Int)) (m : Nat) (p : Int × Int) (h : out[m]? = some p) (hm : out.length = m + 1) : hearGo ((true, n) :: l) true out = hearGo l true (out.set m (p.1 + n, p.2)) := by
  have e : out.getLast? = some p := by rw [List.getLast?_eq_getElem?, hm]; exact h
  show hearGo l true (out.dropLast ++ (match out.getLast? with | some p => [(p.1 + n, p.2)] | none => [])) = _
  rw [e]
  simp only
  rw [last_set out m p _ h hm]
theorem hear_off (n : Int) (l : List (Bool × Int)) (b : Bool) (out : List (Int × Int)) (m : Nat) (p : Int × Int) (h : out[m]? = some p) (hm : out.length = m + 1) : hearGo ((false, n) :: l) b out = hearGo l false (out.set m (p.1, p.2 + n)) := by
  have e : out.getLast? = some p := by rw [List.getLast?_eq_getElem?, hm]; exact h
  have e2 : hearGo ((false, n) :: l) b out = hearGo l false (out.dropLast ++ (match out.getLast? with | some p => [(p.1, p.2 + n)] | none => [])) := by cases b <;> rfl
  rw [e2, e]
  simp only
  rw [last_set out m p _ h hm]
theorem hear_off0 (n : Int) (l : List (Bool × Int)) (b : Bool) : hearGo ((false, n) :: l) b [] = hearGo l false [] := by cases b <;> rfl
theorem hear_on (n : Int) (l : List (Bool × Int)) (out : List (Int × Int)) : hearGo ((true, n) :: l) false out = hearGo l true (out ++ [(n, 0)]) := rfl
end Go.Proofs.YtdfjfacilbahkaaDoor
