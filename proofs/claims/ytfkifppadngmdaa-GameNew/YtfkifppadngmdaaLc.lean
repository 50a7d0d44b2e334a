/- Rows of values of any kind: a copy onto a row of one's own; rows lent with a mark behind them. -/
import Derived.Test.YtfkifppadngmdaaLn
namespace Go.Proofs.Ytfkifppadngmdaa
open Go Go.RowKit
set_option linter.unusedVariables false
set_option maxHeartbeats 400000
set_option maxRecDepth 20000

section
variable {α : Type} {T t : TypeId} {s bts : Nat} {c : α → List Value}
theorem run_copyL0 (K : KdL T t s bts c) (w : World) (ty : TypeId) (d a : Option Addr) (dLen dCap sCap : Nat) :
    (Builtin.copy_ #[T, T] ty #[.slice d dLen dCap, .slice a 0 sCap]).run Try.prog w = .ok (goInt 0) w := by
  obtain ⟨i, z, hi, hz0, hz1, hz2, hz3⟩ := K.i
  have hl : ∀ (x : Addr), (loadCells x 0).run Try.prog w = .ok #[] w := fun x => by simpa using run_loadCells_list (P := Try.prog) w x [] (by simp)
  cases d <;> cases a <;> simp [Builtin.copy_, run_underlying K.u, Builtin.lenOf, Builtin.firstCells, sizeOf, typeInfo, hi, storeCells, hl]
theorem run_copyL (K : KdL T t s bts c) (w : World) (ty : TypeId) (g dLen dCap : Nat) (ad : Addr) (sLen sCap : Nat) (cur : Array Value) (cs : List Value)
    (hg : w.heap[g]? = some (.cells cur t (0, 0))) (hn : cs.length = sLen * s) (hle : sLen ≤ dLen)
    (hsrc : ∀ j v, cs[j]? = some v → w.cell? (ad.add j) = some v) (hfit : cs.length ≤ cur.size) (h1 : ∀ v ∈ cs, v.oneCell' = true) :
    (Builtin.copy_ #[T, T] ty #[.slice (some ⟨g, 0, none⟩) dLen dCap, .slice (some ad) sLen sCap]).run Try.prog w = .ok (goInt sLen) (w.setRow g (splice cur.toList 0 cs).toArray) := by
  obtain ⟨i, z, hi, hz0, hz1, hz2, hz3⟩ := K.i
  have hl := run_loadCells_list (P := Try.prog) w ad cs hsrc
  have hst := run_storeCells_at Try.prog g 0 t cs 0 cur w hg (by simpa using hfit) h1
  rw [hn] at hl
  have hm : Nat.min sLen dLen = sLen := Nat.min_eq_left hle
  simp [Builtin.copy_, run_underlying K.u, Builtin.lenOf, Builtin.firstCells, sizeOf, typeInfo, hi, hz1, hm, hl, hst, splice]
theorem at_copyL (K : KdL T t s bts c) {ops : Array Oper} {rest : List Oper} {o : Oper} {a : Act} {w : World} {Q : Exit → Act → World → Prop} (hgd : o.guard = none) (d e : Operand)
    (ho : o.op = .call { callee := .builtin .copy, args := #[d, e], argTypes := #[T, T] })
    (g dLen dCap : Nat) (sp : Option Addr) (sLen sCap : Nat) (hd : a.eval d = .slice (some ⟨g, 0, none⟩) dLen dCap) (hs : a.eval e = .slice sp sLen sCap)
    (cur : Array Value) (hg : w.heap[g]? = some (.cells cur t (0, 0))) (l : List α) (hlen : l.length = sLen) (hle : sLen ≤ dLen) (hl : LiesL s c w sp l) (hfit : sLen * s ≤ cur.size)
    (B : Nat) (hBg : B ≤ g) (h : ∀ w', Hid (w'.heap[g]? = some (.cells (splice cur.toList 0 (rowL c l)).toArray t (0, 0)) ∧ Below B w w') → wpList Try.prog ops Q rest (a.put o.dst (goInt sLen)) w') : wpList Try.prog ops Q (o :: rest) a w := by
  refine wpList_plain hgd fun K' hK => ?_
  by_cases h0 : sLen = 0
  · subst h0
    have hl0 : l = [] := List.eq_nil_of_length_eq_zero hlen
    subst hl0
    have hrun := run_copyL0 K w o.type (some ⟨g, 0, none⟩) sp dLen dCap sCap
    unfold Oper.wp
    simp [execOp, ho, resolve, invoke, builtin, hd, hs, hrun, Result.andThen]
    refine hK _ _ (h w ⟨?_, Below.refl _ _⟩)
    have e : splice cur.toList 0 (rowL c []) = cur.toList := by simp [splice, rowL]
    rw [e]
    exact hg
  · obtain ⟨gb, ob, rfl, _⟩ := hl 0 _ (List.getElem?_eq_getElem (by omega))
    have hsrc : ∀ j v, (rowL c l)[j]? = some v → w.cell? ((⟨gb, ob, none⟩ : Addr).add j) = some v := fun j v hv => by
      rw [Addr.add_lit]
      exact LiesL.cells K.len K.s0 hl j v hv
    have hrun := run_copyL K w o.type g dLen dCap ⟨gb, ob, none⟩ sLen sCap cur (rowL c l) hg (by rw [rowL_len K.len, hlen]) hle hsrc (by rw [rowL_len K.len, hlen]; exact hfit) (rowL_cell K.one l)
    unfold Oper.wp
    simp [execOp, ho, resolve, invoke, builtin, hd, hs, hrun, Result.andThen]
    exact hK _ _ (h _ ⟨setRow_heap w g cur _ _ _ hg, below_setRow (Below.refl _ _) hBg _⟩)
theorem spliceL_two {M R S : List Value} {n : Nat} (hM : M.length = n + S.length) (hR : R.length = n) : splice (splice M 0 R) n S = R ++ S := by
  have e : splice M 0 R = R ++ M.drop n := by unfold splice; simp [hR]
  rw [e]
  unfold splice
  rw [List.take_left' hR, List.drop_eq_nil_of_le (by rw [List.length_append, List.length_drop]; omega), List.append_nil]
/-- What was lent: a row, and a mark behind it. -/
structure Lnt (t : TypeId) (s : Nat) (c : α → List Value) (mk : α) (w : World) (g : Nat) (l : List α) (y : World) : Prop where
  bx : Bx y g (rowL c (l ++ [mk])).toArray t
  low : Below w.heap.size w y
theorem Lnt.below {mk : α} {w y z : World} {g : Nat} {l : List α} (h : Lnt t s c mk w g l y) (hb : Below y.heap.size y z) : Lnt t s c mk w g l z := ⟨(hb.block g (heap_lt h.bx)).trans h.bx, h.low.trans (hb.mono h.low.size)⟩
theorem bxL_range (hc : ∀ x, (c x).length = s) {y : World} {g : Nat} {r : List α} (h : Bx y g (rowL c r).toArray t) (j : Nat) (a : α) (hj : r[j]? = some a) : y.rangeAt g (0 + j * s) (c a) := fun i v hv => by
  have hi : i < s := by have := (List.getElem?_eq_some_iff.1 hv).1; rw [hc] at this; exact this
  rw [Nat.zero_add]
  exact h.c (j * s + i) v (by rw [List.getElem?_toArray, rowL_at hc r j i a hj hi]; exact hv)
theorem Lnt.lies (hc : ∀ x, (c x).length = s) {mk : α} {w y : World} {g : Nat} {l : List α} (h : Lnt t s c mk w g l y) : LiesL s c y (some ⟨g, 0, none⟩) l := fun j a hj => ⟨g, 0, rfl, bxL_range hc h.bx j a (by rw [List.getElem?_append_left (List.getElem?_eq_some_iff.1 hj).1]; exact hj)⟩
theorem Lnt.mark (hc : ∀ x, (c x).length = s) {mk : α} {w y : World} {g : Nat} {l : List α} (h : Lnt t s c mk w g l y) : y.rangeAt g (l.length * s) (c mk) := by
  have := bxL_range hc h.bx l.length mk (by rw [List.getElem?_append_right (Nat.le_refl _), Nat.sub_self]; rfl)
  rwa [Nat.zero_add] at this
end
theorem one_bxL (z : World) (cs : Array Value) (t : TypeId) : Bx (z.alloc (.cells cs t)) z.heap.size cs t := alloc_last' z _
/-- Rows that were just made lie. -/
theorem lies_new {α : Type} {c : α → List Value} {s : Nat} (hc : ∀ x, (c x).length = s) (w : World) (t : TypeId) (us : List α) : LiesL s c (w.alloc (.cells (rowL c us).toArray t)) (some ⟨w.heap.size, 0, none⟩) us := fun j a hj => by
  refine ⟨w.heap.size, 0, rfl, fun i v hv => ?_⟩
  have hi : i < s := by have := (List.getElem?_eq_some_iff.1 hv).1; rw [hc] at this; exact this
  have := (one_bxL w (rowL c us).toArray t).c (j * s + i) v (by simpa using (by rw [rowL_at hc us j i a hj hi]; exact hv : (rowL c us)[j * s + i]? = some v))
  rw [Nat.zero_add]
  exact this
end Go.Proofs.Ytfkifppadngmdaa
