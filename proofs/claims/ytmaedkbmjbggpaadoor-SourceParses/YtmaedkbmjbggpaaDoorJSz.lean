/- Items lent: where they lie, with marks behind them and behind their bytes. -/
import Derived.Test.YtmaedkbmjbggpaaDoorJNd
import Derived.Test.YtmaedkbmjbggpaaDoorJIm
import Derived.Test.YtmaedkbmjbggpaaDoorJLc
import Derived.Deep.MidRow
import Derived.Test.YtmaedkbmjbggpaaDoorJIh
namespace Go.Proofs.YtmaedkbmjbggpaaDoor
open Go Go.RowKit
set_option linter.unusedVariables false
set_option maxHeartbeats 400000
set_option maxRecDepth 20000

section
variable {α : Type} {t : TypeId} {s : Nat} {c : α → List Value}
theorem rowL_set1 (hc : ∀ x, (c x).length = s) (i : Nat) (v : Value) (hi : i < s) (x : List α) : ∀ (k : Nat) (a e : α), x[k]? = some a → c e = (c a).set i v → rowL c (x.set k e) = (rowL c x).set (k * s + i) v := by
  induction x with
  | nil => intro k a e h; simp at h
  | cons y x ih =>
    intro k a e h he
    cases k with
    | zero =>
      simp at h
      subst h
      rw [List.set_cons_zero, rowL_cons, rowL_cons, he, Nat.zero_mul, Nat.zero_add, List.set_append_left _ _ (by rw [hc]; exact hi)]
    | succ k =>
      simp only [List.getElem?_cons_succ] at h
      rw [List.set_cons_succ, rowL_cons, rowL_cons, ih k a e h he, List.set_append_right _ _ (by rw [hc, Nat.succ_mul]; omega), hc, show (k + 1) * s + i - s = k * s + i by rw [Nat.succ_mul]; omega]
theorem set_arr (l : List Value) (i : Nat) (v : Value) : l.toArray.setIfInBounds i v = (l.set i v).toArray := by simp
theorem BxL.setAll (hc : ∀ x, (c x).length = s) {y : World} {g : Nat} {l : List α} (h : Bx y g (rowL c l).toArray t) (k : Nat) (hk : k < l.length) (e : α) : Bx (y.setCells g (k * s) (c e)) g (rowL c (l.set k e)).toArray t ∧ y.there g (k * s) s := by
  have hl := rowL_len hc l
  have f1 : k * s + s ≤ l.length * s := by have := Nat.mul_le_mul_right s (show k + 1 ≤ l.length from hk); rw [Nat.succ_mul] at this; exact this
  refine ⟨?_, fun j hj => ⟨?_, frozen_heap h _⟩⟩
  · have := heapL_setCells g t (c e) (k * s) y _ h (by rw [List.size_toArray, hc, hl]; exact f1)
    rw [show ((rowL c l).toArray).toList = rowL c l by simp, ← rowL_set hc l k e hk] at this
    exact this
  · rw [cell_heap h, List.getElem?_toArray, List.getElem?_eq_getElem (by omega)]
    rfl
theorem BxL.setOne (hc : ∀ x, (c x).length = s) {y : World} {g : Nat} {l : List α} (h : Bx y g (rowL c l).toArray t) (k i : Nat) (a e : α) (v : Value) (hk : l[k]? = some a) (hi : i < s) (he : c e = (c a).set i v) : Bx (y.setCell ⟨g, k * s + i, none⟩ v) g (rowL c (l.set k e)).toArray t ∧ y.frozen? ⟨g, k * s + i, none⟩ = false := by
  refine ⟨?_, frozen_heap h _⟩
  have := heap_setCell_same y g (k * s + i) _ t v h
  rw [set_arr, ← rowL_set1 hc i v hi l k a e hk he] at this
  exact this
end
theorem infoIt : (Tryd.prog.info? 39).map (fun i => (i.zero, i.size, i.bytes)) = some (some (.agg (i6 z0)), 6, 80) := by kernel_rfl
theorem kIt : KdL (α := Ri) 22 39 6 80 c6 := by
  obtain ⟨i, hi, hz0, hz1, hz2⟩ := info_parts infoIt
  exact ⟨Tryd.underlying22, ⟨i, _, hi, hz0, hz1, hz2, rfl⟩, fun x => rfl, fun x v hv => by
    have := one6 x
    rw [Array.all_eq_true'] at this
    exact this v (by unfold c6 at hv; simpa using hv), by decide, by decide⟩
def cU (b : UInt8) : List Value := [byV b]
theorem kU : KdL (α := UInt8) 37 5 1 1 cU := by
  obtain ⟨i, hi, hz0, hz1, hz2⟩ := info_parts infoB
  exact ⟨Tryd.underlying37, ⟨i, _, hi, hz0, hz1, hz2, rfl⟩, fun _ => rfl, fun x v hv => by simp [cU, byV] at hv; subst hv; rfl, by decide, by decide⟩
theorem lb8_lies {w : World} {sp : Option Addr} {l : List UInt8} (h : LB8 w sp l) : LiesL 1 cU w sp l := fun j b hj => by
  obtain ⟨g, o, e, hcell⟩ := h j b hj
  refine ⟨g, o, e, fun i v hv => ?_⟩
  rcases i with _ | i
  · simp [cU] at hv
    subst hv
    simpa using hcell
  · simp [cU] at hv
/-- Items in a row of their own, each one's bytes in the block that is its own, marked behind. -/
structure Lt0 (g : Nat) (X : List Itm) (R : List Ri) (y : World) : Prop where
  bx : Bx y g (rowL c6 (X.map (·.1) ++ R)).toArray 39
  by_ : ∀ i x, X[i]? = some x → x.1.sp = some ⟨g + 1 + i, 0, none⟩ ∧ x.1.cap = x.1.m + 2 ∧ x.2.length = x.1.m ∧ Bx y (g + 1 + i) (rowL cU (x.2 ++ [162, 161])).toArray 5
theorem Lt0.below {g : Nat} {X : List Itm} {R : List Ri} {y z : World} (h : Lt0 g X R y) (hb : Below y.heap.size y z) : Lt0 g X R z :=
  ⟨(hb.block g (heap_lt h.bx)).trans h.bx, fun i x hx => by
    obtain ⟨h1, h2, h3, h4⟩ := h.by_ i x hx
    exact ⟨h1, h2, h3, (hb.block _ (heap_lt h4)).trans h4⟩⟩
theorem Lt0.li {g : Nat} {X : List Itm} {R : List Ri} {y : World} (h : Lt0 g X R y) : LI y (some ⟨g, 0, none⟩) (X.map (·.1)) := fun j a hj => ⟨g, 0, rfl, bxL_range kIt.len h.bx j a (by rw [List.getElem?_append_left (List.getElem?_eq_some_iff.1 hj).1]; exact hj)⟩
theorem Lt0.lowB {g : Nat} {X : List Itm} {R : List Ri} {y z : World} (h : Lt0 g X R y) {B : Nat} (hB : g + 1 + X.length ≤ B) (hb : Below B y z) : Lt0 g X R z :=
  ⟨(hb.block g (by omega)).trans h.bx, fun i x hx => by
    obtain ⟨h1, h2, h3, h4⟩ := h.by_ i x hx
    have hi := (List.getElem?_eq_some_iff.1 hx).1
    exact ⟨h1, h2, h3, (hb.block _ (by omega)).trans h4⟩⟩
/-- Rows made new. -/
theorem made_row (k : Nat) : (madeCells (i6 z0) (k * 6)).toList = rowL c6 (List.replicate k z0) := by
  apply List.ext_getElem?
  intro i
  have hl : (rowL c6 (List.replicate k z0)).length = k * 6 := by rw [rowL_len kIt.len, List.length_replicate]
  by_cases hi : i < k * 6
  · have e : i / 6 * 6 + i % 6 = i := by omega
    have h1 := rowL_at kIt.len (List.replicate k z0) (i / 6) (i % 6) z0 (by rw [List.getElem?_replicate, if_pos (by omega)]) (by omega)
    rw [e] at h1
    rw [h1, Array.getElem?_toList]
    have hm : i % 6 < 6 := by omega
    have hs : (madeCells (i6 z0) (k * 6)).size = k * 6 := by simp [size_madeCells]
    rw [Array.getElem?_eq_getElem (by omega)]
    unfold madeCells
    have q : ∀ r, r < 6 → some ((i6 z0)[r]!) = (c6 z0)[r]? := fun r hr => by
      rcases r with _ | _ | _ | _ | _ | _ | r <;> first | rfl | omega
    simp
    exact q (i % 6) hm
  · rw [List.getElem?_eq_none (by rw [Array.length_toList, size_madeCells]; omega), List.getElem?_eq_none (by rw [hl]; omega)]
theorem tail2 {A : List Value} {m : Nat} (hA : A.length = m) (p q u v : Value) : ((A ++ [p, q]).set (m + 1) u).set m v = A ++ [v, u] := by
  subst hA
  rw [List.set_append_right _ _ (by omega), List.set_append_right _ _ (by omega)]
  simp
theorem last2 {A : List Value} {m : Nat} (hA : A.length = m + 2) : ∃ p q, A = A.take m ++ [p, q] := by
  have h : (A.drop m).length = 2 := by rw [List.length_drop]; omega
  obtain ⟨p, q, e⟩ : ∃ p q, A.drop m = [p, q] := by
    rcases hd : A.drop m with _ | ⟨p, _ | ⟨q, _ | ⟨r, t⟩⟩⟩ <;> rw [hd] at h <;> simp at h
    exact ⟨p, q, rfl⟩
  exact ⟨p, q, by rw [← e, List.take_append_drop]⟩
theorem setCells_size (b : Nat) : ∀ (vs : List Value) (o : Nat) (w : World), (w.setCells b o vs).heap.size = w.heap.size
  | [], _, _ => rfl
  | v :: r, o, w => by rw [World.setCells, setCells_size b r]; simp
theorem at_copyLs {α : Type} {T t : TypeId} {s bts : Nat} {c : α → List Value} (K : KdL T t s bts c) {ops : Array Oper} {rest : List Oper} {o : Oper} {a : Act} {w : World} {Q : Exit → Act → World → Prop} (hgd : o.guard = none) (d e : Operand)
    (ho : o.op = .call { callee := .builtin .copy, args := #[d, e], argTypes := #[T, T] })
    (g dLen dCap : Nat) (sp : Option Addr) (sLen sCap : Nat) (hd : a.eval d = .slice (some ⟨g, 0, none⟩) dLen dCap) (hs : a.eval e = .slice sp sLen sCap)
    (cur : Array Value) (hg : w.heap[g]? = some (.cells cur t (0, 0))) (l : List α) (hlen : l.length = sLen) (hle : sLen ≤ dLen) (hl : LiesL s c w sp l) (hfit : sLen * s ≤ cur.size)
    (B : Nat) (hBg : B ≤ g) (h : ∀ w', Hid (w'.heap[g]? = some (.cells (splice cur.toList 0 (rowL c l)).toArray t (0, 0)) ∧ Below B w w' ∧ w'.heap.size = w.heap.size) → wpList Tryd.prog ops Q rest (a.put o.dst (goInt sLen)) w') : wpList Tryd.prog ops Q (o :: rest) a w := by
  refine wpList_plain hgd fun K' hK => ?_
  by_cases h0 : sLen = 0
  · subst h0
    have hl0 : l = [] := List.eq_nil_of_length_eq_zero hlen
    subst hl0
    have hrun := run_copyL0 K w o.type (some ⟨g, 0, none⟩) sp dLen dCap sCap
    unfold Oper.wp
    simp [execOp, ho, resolve, invoke, builtin, hd, hs, hrun, Result.andThen]
    refine hK _ _ (h w ⟨?_, Below.refl _ _, rfl⟩)
    have e : splice cur.toList 0 (rowL c []) = cur.toList := by simp [splice, rowL]
    rw [e]
    exact hg
  · obtain ⟨gb, ob, rfl, _⟩ := hl 0 _ (List.getElem?_eq_getElem (by omega))
    have hsrc : ∀ j v, (rowL c l)[j]? = some v → w.cell? ((⟨gb, ob, none⟩ : Addr).add j) = some v := fun j v hv => by
      rw [Addr.add_lit]
      exact LiesL.cells K.len K.s0 hl j v hv
    have hrun := run_copyL K w o.type g dLen dCap ⟨gb, ob, none⟩ sLen sCap cur (rowL c l) hg (by rw [rowL_len K.len, hlen]) hle hsrc (by rw [rowL_len K.len, hlen]; exact hfit) (rowL_cell K.one l)
    unfold Oper.wp
    simp [execOp, ho, resolve, invoke, builtin, hd, hs, hrun, Result.andThen]
    exact hK _ _ (h _ ⟨setRow_heap w g cur _ _ _ hg, below_setRow (Below.refl _ _) hBg _, by simp [World.setRow]⟩)
end Go.Proofs.YtmaedkbmjbggpaaDoor
/- The statements' own lending of items. -/
namespace Go.Proofs.YtmaedkbmjbggpaaDoor
open Go Go.RowKit
set_option linter.unusedVariables false
set_option maxHeartbeats 1000000
set_option maxRecDepth 20000

def lentR (r : Ri) (G : Nat) : Ri := { r with sp := some ⟨G, 0, none⟩, cap := r.m + 2 }
/-- Where lending has come to. -/
structure Ls (v : World) (L : List Itm) (n j g : Nat) (X : List Itm) (z : World) : Prop where
  lt : Lt0 g X (List.replicate (n + 2 - j) z0) z
  pu : X.map pu = (L.take j).map pu
  len : X.length = j
  sz : z.heap.size = g + 1 + j
  low : Below g v z
  a : ∀ x ∈ X, x.1.a ≤ 9223372036854775807
/-- The row's next item is x; its bytes' block, if there is one, has the cells C. -/
structure Lm (v : World) (g j : Nat) (X : List Itm) (x : Ri) (R : List Ri) (C : Option (List Value)) (z : World) : Prop where
  lt : Lt0 g X (x :: R) z
  len : X.length = j
  sz : z.heap.size = g + 1 + j + (if C = none then 0 else 1)
  low : Below g v z
  by_ : ∀ c, C = some c → Bx z (g + 1 + j) c.toArray 5
theorem Ls.first {v : World} {L : List Itm} {n j g : Nat} {X : List Itm} {z : World} (h : Ls v L n j g X z) (hj : j < n) (x : Ri) : Lm v g j X x (List.replicate (n + 2 - (j + 1)) z0) none (z.setCells g (j * 6) (i6 x).toList) ∧ z.there g (j * 6) (i6 x).size := by
  have e : List.replicate (n + 2 - j) z0 = z0 :: List.replicate (n + 2 - (j + 1)) z0 := by rw [show n + 2 - j = (n + 2 - (j + 1)) + 1 by omega, List.replicate_succ]
  have hb := h.lt.bx
  rw [e] at hb
  have hml : (X.map (·.1)).length = j := by rw [List.length_map, h.len]
  have k := BxL.setAll kIt.len hb j (by rw [List.length_append, hml]; simp) x
  have e2 : (X.map (·.1) ++ z0 :: List.replicate (n + 2 - (j + 1)) z0).set j x = X.map (·.1) ++ x :: List.replicate (n + 2 - (j + 1)) z0 := by
    rw [List.set_append_right _ _ (by omega), hml, Nat.sub_self]
    rfl
  rw [e2] at k
  have lowg : Below g z (z.setCells g (j * 6) (i6 x).toList) := setCellsL_below g g (Nat.le_refl _) _ _ _
  refine ⟨⟨⟨k.1, fun i y hy => ?_⟩, h.len, ?_, h.low.trans lowg, fun c hc => by cases hc⟩, k.2⟩
  · obtain ⟨h1, h2, h3, h4⟩ := h.lt.by_ i y hy
    exact ⟨h1, h2, h3, (setCellsL_other g _ (by omega) _ _ _).trans h4⟩
  · simp only [if_true, Nat.add_zero]
    rw [← h.sz]
    exact setCells_size _ _ _ _
theorem Lm.made {v : World} {g j : Nat} {X : List Itm} {x : Ri} {R : List Ri} {y : World} (h : Lm v g j X x R none y) (M : Array Value) : Lm v g j X x R (some M.toList) (y.alloc (.cells M 5)) := by
  have hs : y.heap.size = g + 1 + j := by have := h.sz; simpa using this
  refine ⟨h.lt.below (below1 _ _), h.len, ?_, h.low.trans ((below1 y _).mono (by omega)), fun c hc => ?_⟩
  · simp [hs]
  · cases hc
    rw [← hs]
    exact alloc_last' y _
theorem Lm.turn {v : World} {g j : Nat} {X : List Itm} {x : Ri} {R : List Ri} {C : List Value} {y z : World} (h : Lm v g j X x R (some C) y) (hb : Below (g + 1 + j) y z) (hz : z.heap.size = y.heap.size) (C' : List Value) (hC : Bx z (g + 1 + j) C'.toArray 5) : Lm v g j X x R (some C') z :=
  ⟨h.lt.lowB (by rw [h.len]; exact Nat.le_refl _) hb, h.len, by rw [hz]; have := h.sz; simpa using this, h.low.trans (hb.mono (by omega)), fun c hc => by cases hc; exact hC⟩
theorem Lm.set {v : World} {g j : Nat} {X : List Itm} {x : Ri} {R : List Ri} {C : List Value} {y : World} (h : Lm v g j X x R (some C) y) (k : Nat) (u : Value) : Lm v g j X x R (some (C.set k u)) (y.setCell ⟨g + 1 + j, k, none⟩ u) := by
  refine h.turn ((Below.refl _ y).setCell (p := ⟨g + 1 + j, k, none⟩) (Nat.le_refl _) u) (by simp) _ ?_
  have := heap_setCell_same y (g + 1 + j) k _ 5 u (h.by_ C rfl)
  rw [set_arr] at this
  exact this
theorem Lm.at {v : World} {g j : Nat} {X : List Itm} {x : Ri} {R : List Ri} {C : List Value} {y : World} (h : Lm v g j X x R (some C) y) (k : Nat) (hk : k < C.length) : (∃ u, y.cell? ⟨g + 1 + j, k, none⟩ = some u) ∧ y.frozen? ⟨g + 1 + j, k, none⟩ = false := by
  have hb := h.by_ C rfl
  exact ⟨⟨C[k], by rw [cell_heap hb, List.getElem?_toArray, List.getElem?_eq_getElem hk]⟩, frozen_heap hb _⟩
theorem Lm.last {v : World} {L : List Itm} {n j g : Nat} {X : List Itm} {x : Itm} {y : World} (h : Lm v g j X x.1 (List.replicate (n + 2 - (j + 1)) z0) (some (rowL cU x.2 ++ [byV 162, byV 161])) y) (hx : L[j]? = some x) (hm : x.2.length = x.1.m) (ha : x.1.a ≤ 9223372036854775807) (hp : X.map pu = (L.take j).map pu) (hXa : ∀ x ∈ X, x.1.a ≤ 9223372036854775807) :
    Ls v L n (j + 1) g (X ++ [(lentR x.1 (g + 1 + j), x.2)]) (y.setCell ⟨g, j * 6 + 5, none⟩ (.slice (some ⟨g + 1 + j, 0, none⟩) x.1.m (x.1.m + 2))) ∧ y.frozen? ⟨g, j * 6 + 5, none⟩ = false ∧ y.cell? ⟨g, j * 6 + 5, none⟩ = some (.slice x.1.sp x.1.m x.1.cap) := by
  have hb := h.lt.bx
  have hml : (X.map (·.1)).length = j := by rw [List.length_map, h.len]
  have hj : (X.map (·.1) ++ x.1 :: List.replicate (n + 2 - (j + 1)) z0)[j]? = some x.1 := by rw [List.getElem?_append_right (by omega), hml, Nat.sub_self]; rfl
  have k := BxL.setOne kIt.len hb j 5 x.1 (lentR x.1 (g + 1 + j)) (.slice (some ⟨g + 1 + j, 0, none⟩) x.1.m (x.1.m + 2)) hj (by decide) rfl
  have e2 : (X.map (·.1) ++ x.1 :: List.replicate (n + 2 - (j + 1)) z0).set j (lentR x.1 (g + 1 + j)) = (X ++ [(lentR x.1 (g + 1 + j), x.2)]).map (·.1) ++ List.replicate (n + 2 - (j + 1)) z0 := by
    rw [List.set_append_right _ _ (by omega), hml, Nat.sub_self]
    simp
  rw [e2] at k
  refine ⟨⟨⟨k.1, fun i z hz => ?_⟩, ?_, by simp [h.len], ?_, h.low.trans ((Below.refl _ y).setCell (p := ⟨g, j * 6 + 5, none⟩) (Nat.le_refl _) _), fun z hz => ?_⟩, k.2, ?_⟩
  · rcases Nat.lt_or_ge i X.length with hi | hi
    · rw [List.getElem?_append_left hi] at hz
      obtain ⟨h1, h2, h3, h4⟩ := h.lt.by_ i z hz
      exact ⟨h1, h2, h3, (heap_setCell_other y ⟨g, j * 6 + 5, none⟩ _ _ (by show g + 1 + i ≠ g; omega)).trans h4⟩
    · rw [List.getElem?_append_right hi] at hz
      have hi0 : i - X.length = 0 := by
        rcases Nat.eq_zero_or_pos (i - X.length) with h0 | h0
        · exact h0
        · rw [List.getElem?_eq_none (by simp; omega)] at hz; cases hz
      rw [hi0] at hz
      simp at hz
      subst hz
      have hij : i = j := by have := h.len; omega
      subst hij
      refine ⟨rfl, rfl, hm, (heap_setCell_other y ⟨g, _, none⟩ _ _ (by show g + 1 + _ ≠ g; omega)).trans ?_⟩
      have := h.by_ _ rfl
      rw [rowL_app]
      exact this
  · rw [List.map_append, hp, List.take_add_one, hx]
    simp [pu, lentR]
  · rw [World.size_setCell]
    have := h.sz
    simp at this
    omega
  · rcases List.mem_append.1 hz with h1 | h1
    · exact hXa z h1
    · simp at h1
      subst h1
      exact ha
  · have := bxL_range kIt.len hb j x.1 hj 5 (.slice x.1.sp x.1.m x.1.cap) rfl
    rw [Nat.zero_add] at this
    exact this
theorem Ls.end1 {v : World} {L : List Itm} {n g : Nat} {X : List Itm} {z : World} (h : Ls v L n n g X z) (k : Nat) (R : List Ri) (hR : Lt0 g X R z) (hk : k < n + 2) (hRl : R.length = 2) (hkn : n ≤ k) (e : Ri) : Lt0 g X (R.set (k - n) e) (z.setCells g (k * 6) (i6 e).toList) ∧ z.there g (k * 6) (i6 e).size ∧ Below g z (z.setCells g (k * 6) (i6 e).toList) := by
  have hml : (X.map (·.1)).length = n := by rw [List.length_map, h.len]
  have q := BxL.setAll kIt.len hR.bx k (by rw [List.length_append, hml, hRl]; exact hk) e
  rw [List.set_append_right _ _ (by omega), hml] at q
  refine ⟨⟨q.1, fun i y hy => ?_⟩, q.2, setCellsL_below g g (Nat.le_refl _) _ _ _⟩
  obtain ⟨h1, h2, h3, h4⟩ := hR.by_ i y hy
  exact ⟨h1, h2, h3, (setCellsL_other g _ (by omega) _ _ _).trans h4⟩
theorem rt6s (r : Ri) : (Tryd.prog.info? 39).map (·.size) = some (i6 r).size := rt6.i
def m77 : Ri := ⟨77, ⟨#[]⟩, 0, ⟨#[]⟩, 0, none, 0, 0⟩
def m78 : Ri := ⟨78, ⟨#[]⟩, 0, ⟨#[]⟩, 0, none, 0, 0⟩
theorem lent_any (v : World) (sp : Option Addr) (cap : Nat) (L : List Itm) (hl : Hid (LI v sp (L.map (·.1)))) (hG : Hid (∀ x ∈ L, LB8 v x.1.sp x.2 ∧ x.2.length = x.1.m ∧ x.1.a ≤ 9223372036854775807 ∧ x.1.m ≤ 134217728)) (hn : L.length ≤ 8388608) :
    Calls Tryd.prog 8 #[.slice sp L.length cap] v fun e w' => ∃ X : List Itm, e = .returned (.slice (some ⟨v.heap.size, 0, none⟩) L.length (L.length + 2)) ∧ Hid (Below v.heap.size v w' ∧ Lt0 v.heap.size X [m77, m78] w' ∧ X.map pu = L.map pu ∧ X.length = L.length ∧ ∀ x ∈ X, x.1.a ≤ 9223372036854775807) := by
  obtain ⟨n, hn'⟩ : ∃ n, L.length = n := ⟨_, rfl⟩
  have hnn : Hid (L.length = n) := hn'
  rw [hn'] at hn ⊢
  have ni : (n : Int) ≤ 8388608 := by omega
  obtain ⟨i, hi, hz0, hz1, hz2⟩ := info_parts infoIt
  have hmk : ∀ y, (Instr.makeSlice 22 (.int .i64 ((n : Int) + 2)) (.int .i64 ((n : Int) + 2))).run Tryd.prog y = .ok (.slice (some ⟨y.heap.size, 0, none⟩) (n + 2) (n + 2)) (y.alloc (.cells (madeCells (i6 z0) ((n + 2) * 6)) 39)) := fun y => by
    have := run_make (P := Tryd.prog) y 22 39 i _ Tryd.underlying22 hi hz0 .i64 .i64 ((n : Int) + 2) ((n : Int) + 2) (by omega) (Int.le_refl _) (by rw [hz2]; omega) (by omega)
    rw [hz1, show ((n : Int) + 2).toNat = n + 2 by omega] at this
    exact this
  obtain ⟨ib, hib, hb0, hb1, hb2⟩ := info_parts infoB
  have hmb : Hid (∀ (m : Nat) y, m ≤ 134217728 → (Instr.makeSlice 37 (.int .i64 ((m : Int) + 2)) (.int .i64 ((m : Int) + 2))).run Tryd.prog y = .ok (.slice (some ⟨y.heap.size, 0, none⟩) (m + 2) (m + 2)) (y.alloc (.cells (madeCells #[.int .u8 0] ((m + 2) * 1)) 5))) := fun m y hm => by
    have := run_make (P := Tryd.prog) y 37 5 ib _ Tryd.underlying37 hib hb0 .i64 .i64 ((m : Int) + 2) ((m : Int) + 2) (by omega) (Int.le_refl _) (by rw [hb2]; omega) (by omega)
    rw [hb1, show ((m : Int) + 2).toNat = m + 2 by omega] at this
    exact this
  clear hi hz0 hz1 hz2 hib hb0 hb1 hb2
  obtain ⟨g, hg⟩ : ∃ g, v.heap.size = g := ⟨_, rfl⟩
  have hgv : Hid (v.heap.size = g) := hg
  have hS : Hid (Ls v L n 0 g [] (v.alloc (.cells (madeCells (i6 z0) ((n + 2) * 6)) 39))) := by
    refine ⟨⟨?_, fun i x h => by simp at h⟩, rfl, rfl, by simp [hg], by rw [← hg]; exact below1 v _, fun x h => by simp at h⟩
    rw [← hg]
    have := alloc_last' v (.cells (madeCells (i6 z0) ((n + 2) * 6)) 39)
    rw [show (rowL c6 (([] : List Itm).map (·.1) ++ List.replicate (n + 2 - 0) z0)).toArray = madeCells (i6 z0) ((n + 2) * 6) from by simp only [List.map_nil, List.nil_append, Nat.sub_zero]; rw [← made_row]]
    exact this
  obtain ⟨M, hM⟩ : ∃ M, madeCells (i6 z0) ((n + 2) * 6) = M := ⟨_, rfl⟩
  rw [hM] at hmk hS
  have hmk' := hmk v
  rw [hg] at hmk' ⊢
  have i0 := fun (j : Nat) (hj : j < n + 2) w => idxP (P := Tryd.prog) (g := g) (off := 0) (len := n + 2) (cap := n + 2) Tryd.underlying22 (s := 6) (by kernel_rfl) .i64 j w hj
  simp only [Nat.zero_add] at i0
  replace i0 : Hid _ := i0
  have b77 : Hid (Tryd.prog.built 39 [(0, .int .u8 77)] = some (i6 m77)) := by show _ = _; kernel_rfl
  have b78 : Hid (Tryd.prog.built 39 [(0, .int .u8 78)] = some (i6 m78)) := by show _ = _; kernel_rfl
  clear hM hmk hn hn' hg
  go_enter Tryd.func8, Tryd.ntmps8
  go_wp2
  go_loopw [4] (fun t wz => ∃ (j : Nat) (X : List Itm) (z : World), z = wz ∧ t = .int .i64 (j : Int) ∧ Hid (j ≤ n) ∧ Hid (Ls v L n j g X z)) (fun t _ => (n - intOf t).toNat)
  case atStart => exact ⟨0, [], _, rfl, rfl, Nat.zero_le _, hS⟩
  case round =>
    obtain ⟨j, X, z, rfl, rfl, J, K⟩ := hrel
    clear hS hmk'
    by_cases hlt : j < n
    · obtain ⟨x, hx⟩ : ∃ x, L[j]? = some x := ⟨_, List.getElem?_eq_getElem (by rw [hnn.out]; exact hlt)⟩
      obtain ⟨gs, os, hsp, rg⟩ := hl.out j x.1 (by rw [List.getElem?_map, hx]; rfl)
      obtain ⟨lx, lm, la, ls⟩ := hG.out x (List.mem_of_getElem? hx)
      have R1 : Hid (∀ u, Below g v u → u.rangeAt gs (os + j * 6) (i6 x.1).toList) := fun u hu => range_keep rg (by rw [hgv.out]; exact hu)
      have hLx : Hid (∀ u, Below g v u → LiesL 1 cU u x.1.sp x.2) := fun u hu => lb8_lies (lx.below (by rw [hgv.out]; exact hu))
      have hc5 : Hid (∀ u, Below g v u → u.cell? ⟨gs, os + j * 6 + 5, none⟩ = some (.slice x.1.sp x.1.m x.1.cap)) := fun u hu => R1.out u hu 5 _ rfl
      have hfin : Hid (∀ u, Lm v g j X x.1 (List.replicate (n + 2 - (j + 1)) z0) (some (rowL cU x.2 ++ [byV 162, byV 161])) u → Ls v L n (j + 1) g (X ++ [(lentR x.1 (g + 1 + j), x.2)]) (u.setCell ⟨g, j * 6 + 5, none⟩ (.slice (some ⟨g + 1 + j, 0, none⟩) x.1.m (x.1.m + 2))) ∧ u.frozen? ⟨g, j * 6 + 5, none⟩ = false ∧ u.cell? ⟨g, j * 6 + 5, none⟩ = some (.slice x.1.sp x.1.m x.1.cap)) := fun u hu => hu.last hx lm la K.out.pu K.out.a
      have hL1 : Hid (Lm v g j X x.1 (List.replicate (n + 2 - (j + 1)) z0) none (z.setCells g (j * 6) (i6 x.1).toList)) := (K.out.first hlt x.1).1
      have hth : Hid (z.there g (j * 6) (i6 x.1).size) := (K.out.first hlt x.1).2
      have hlm : Hid (x.2.length = x.1.m) := lm
      have mi : (x.1.m : Int) ≤ 134217728 := by omega
      have mk := hmb.out x.1.m
      obtain ⟨xr, hxr⟩ : ∃ xr, x.1 = xr := ⟨_, rfl⟩
      rw [hxr] at R1 hLx hc5 hfin hL1 hth hlm mi mk ls
      obtain ⟨m, hm⟩ : ∃ m, xr.m = m := ⟨_, rfl⟩
      obtain ⟨xs, hxs⟩ : ∃ xs, xr.sp = xs := ⟨_, rfl⟩
      obtain ⟨xc, hxc⟩ : ∃ xc, xr.cap = xc := ⟨_, rfl⟩
      rw [hm] at hc5 hfin hlm mi mk ls
      rw [hxs] at hc5 hfin hLx
      rw [hxc] at hc5 hfin
      obtain ⟨k, hk⟩ : ∃ k, m + 2 = k := ⟨_, rfl⟩
      have hM1 : Hid ((madeCells #[.int .u8 0] ((m + 2) * 1)).size = k) := by show _ = _; rw [size_madeCells]; omega
      obtain ⟨M1, hM1'⟩ : ∃ M1, madeCells #[.int .u8 0] ((m + 2) * 1) = M1 := ⟨_, rfl⟩
      rw [hM1'] at mk hM1
      have mk1 : Hid (∀ u, Lm v g j X xr (List.replicate (n + 2 - (j + 1)) z0) none u → (Instr.makeSlice 37 (.int .i64 ((m : Int) + 2)) (.int .i64 ((m : Int) + 2))).run Tryd.prog u = .ok (.slice (some ⟨g + 1 + j, 0, none⟩) k k) (u.alloc (.cells M1 5))) := fun u hu => by
        have h1 := mk u ls
        have h2 : u.heap.size = g + 1 + j := by have := hu.sz; simpa using this
        rw [h2, hk] at h1
        exact h1
      rw [hk] at hfin
      have hki : (k : Int) = (m : Int) + 2 := by omega
      have hkm : Hid (k = m + 2) := hk.symm
      have ib1 : ∀ w, (Instr.indexAt 37 (.slice (some ⟨g + 1 + j, 0, none⟩) k k) (.int .i64 ((k : Int) - 1))).run Tryd.prog w = .ok (.pointer (some ⟨g + 1 + j, m + 1, none⟩)) w := fun w => by
        have := idxP (P := Tryd.prog) (g := g + 1 + j) (off := 0) (len := k) (cap := k) Tryd.underlying37 (s := 1) (by kernel_rfl) .i64 (m + 1) w (by omega)
        rw [show ((m + 1 : Nat) : Int) = (k : Int) - 1 by omega, Nat.zero_add, Nat.mul_one] at this
        exact this
      have ib2 : ∀ w, (Instr.indexAt 37 (.slice (some ⟨g + 1 + j, 0, none⟩) k k) (.int .i64 ((k : Int) - 2))).run Tryd.prog w = .ok (.pointer (some ⟨g + 1 + j, m, none⟩)) w := fun w => by
        have := idxP (P := Tryd.prog) (g := g + 1 + j) (off := 0) (len := k) (cap := k) Tryd.underlying37 (s := 1) (by kernel_rfl) .i64 m w (by omega)
        rw [show ((m : Nat) : Int) = (k : Int) - 2 by omega, Nat.zero_add, Nat.mul_one] at this
        exact this
      have ij := i0.out j (by omega)
      have is := fun w => idxP (P := Tryd.prog) (g := gs) (off := os) (len := n) (cap := cap) Tryd.underlying22 (s := 6) (by kernel_rfl) .i64 j w hlt
      have hji : (j : Int) < n := by omega
      have hlt' : Hid (j < n) := hlt
      have Kz : Hid (Below g v z) := K.out.low
      have tn : ((k : Int) - 2).toNat = m := by omega
      have k0 : (0 : Int) ≤ (k : Int) - 2 := by omega
      have k1 : (k : Int) - 2 ≤ k := by omega
      have k2 : (k : Int) ≤ 134217730 := by omega
      have hcp : Hid (∀ u y3, Lm v g j X xr (List.replicate (n + 2 - (j + 1)) z0) (some M1.toList) u → (y3.heap[g + 1 + j]? = some (.cells (splice M1.toList 0 (rowL cU x.2)).toArray 5 (0, 0)) ∧ Below (g + 1 + j) u y3 ∧ y3.heap.size = u.heap.size) → ∃ p q, Lm v g j X xr (List.replicate (n + 2 - (j + 1)) z0) (some (rowL cU x.2 ++ [p, q])) y3) := fun u y3 hu h3 => by
        have hr : (rowL cU x.2).length = m := by rw [rowL_len kU.len, hlm.out, Nat.mul_one]
        have hl2 : (splice M1.toList 0 (rowL cU x.2)).length = m + 2 := by
          rw [length_splice _ _ _ (by rw [hr, Array.length_toList, hM1.out]; omega), Array.length_toList, hM1.out, hk]
        obtain ⟨p, q, e⟩ := last2 hl2
        have e2 : (splice M1.toList 0 (rowL cU x.2)).take m = rowL cU x.2 := by unfold splice; simp [← hr]
        rw [e2] at e
        rw [e] at h3
        exact ⟨p, q, hu.turn h3.2.1 h3.2.2 _ h3.1⟩
      have hst : Hid (∀ u p q, Lm v g j X xr (List.replicate (n + 2 - (j + 1)) z0) (some (rowL cU x.2 ++ [p, q])) u → ((∃ c, u.cell? ⟨g + 1 + j, m + 1, none⟩ = some c) ∧ u.frozen? ⟨g + 1 + j, m + 1, none⟩ = false) ∧ Lm v g j X xr (List.replicate (n + 2 - (j + 1)) z0) (some (rowL cU x.2 ++ [p, .int .u8 161])) (u.setCell ⟨g + 1 + j, m + 1, none⟩ (.int .u8 161))) := fun u p q hu => by
        have hr : (rowL cU x.2).length = m := by rw [rowL_len kU.len, hlm.out, Nat.mul_one]
        refine ⟨hu.at (m + 1) (by simp [hr]), ?_⟩
        have := hu.set (m + 1) (.int .u8 161)
        rw [List.set_append_right _ _ (by omega), hr, show m + 1 - m = 1 by omega] at this
        exact this
      have hst2 : Hid (∀ u p q, Lm v g j X xr (List.replicate (n + 2 - (j + 1)) z0) (some (rowL cU x.2 ++ [p, q])) u → ((∃ c, u.cell? ⟨g + 1 + j, m, none⟩ = some c) ∧ u.frozen? ⟨g + 1 + j, m, none⟩ = false) ∧ Lm v g j X xr (List.replicate (n + 2 - (j + 1)) z0) (some (rowL cU x.2 ++ [.int .u8 162, q])) (u.setCell ⟨g + 1 + j, m, none⟩ (.int .u8 162))) := fun u p q hu => by
        have hr : (rowL cU x.2).length = m := by rw [rowL_len kU.len, hlm.out, Nat.mul_one]
        refine ⟨hu.at m (by simp [hr]), ?_⟩
        have := hu.set m (.int .u8 162)
        rw [List.set_append_right _ _ (by omega), hr, Nat.sub_self] at this
        exact this
      subst hsp
      clear hlt hx rg lx lm la ls mk hmb i0 b77 b78 hm hxs hxc hk hM1' hl hG hxr K J
      go_wp2_with (first
        | ((with_reducible refine at_loadm rt6 gs (os + j * 6) (i6 xr) ?_ ?_ (.tmp 20) ?_ ?_ ?_ ?_); exact R1.out z Kz.out; rfl; kernel_rfl; rfl; rfl)
        | ((with_reducible refine wpList_store_mid ?_ 39 (.tmp 22) (.tmp 21) ?_ g (j * 6) (i6 xr) ?_ ?_ hth.out (rt6s _) (one6 _) ?_); rfl; rfl; rfl; rfl; (with_reducible refine gen_world (z.setCells g (j * 6) (i6 xr).toList) (Lm v g j X xr (List.replicate (n + 2 - (j + 1)) z0) none) hL1.out ?_); intro y1 K1; have c1 := hc5.out y1 K1.out.low; have mk2 := mk1.out y1 K1.out)
        | ((with_reducible refine gen_world (y1.alloc (.cells M1 5)) (Lm v g j X xr (List.replicate (n + 2 - (j + 1)) z0) (some M1.toList)) (K1.out.made M1) ?_); intro y2 K2; have c2 := hc5.out y2 K2.out.low; clear c1 mk2)
        | (refine at_copyLs kU rfl (.tmp 31) (.tmp 36) rfl (g + 1 + j) k k xs m xc rfl rfl M1 (K2.out.by_ _ rfl) x.2 hlm.out (by omega) (hLx.out y2 K2.out.low) ?_ (g + 1 + j) (Nat.le_refl _) ?_; (rw [hM1.out]; omega); intro y3 H3; obtain ⟨p, q, K3⟩ := hcp.out y2 y3 K2.out H3.out; replace K3 : Hid _ := K3; clear H3 c2; obtain ⟨⟨⟨o3, d3⟩, f3⟩, k3⟩ := hst.out y3 p q K3.out; replace k3 : Hid _ := k3)
        | ((with_reducible refine gen_world (y3.setCell ⟨g + 1 + j, m + 1, none⟩ (.int .u8 161)) (Lm v g j X xr (List.replicate (n + 2 - (j + 1)) z0) (some (rowL cU x.2 ++ [p, .int .u8 161]))) k3.out ?_); intro y4 K4; clear d3 f3; obtain ⟨⟨⟨o4, d4⟩, f4⟩, k4⟩ := hst2.out y4 p _ K4.out; replace k4 : Hid _ := k4)
        | ((with_reducible refine gen_world (y4.setCell ⟨g + 1 + j, m, none⟩ (.int .u8 162)) (Lm v g j X xr (List.replicate (n + 2 - (j + 1)) z0) (some (rowL cU x.2 ++ [.int .u8 162, .int .u8 161]))) k4.out ?_); intro y5 K5; clear d4 f4; obtain ⟨k5, f5, d5⟩ := hfin.out y5 K5.out; replace k5 : Hid _ := k5))
      go_roundw
      case rel => exact ⟨j + 1, _, _, rfl, by simp, hlt'.out, k5⟩
      case measure => have := hlt'.out; simp [intOf]; omega
    · have hje : j = n := by have := J.out; omega
      subst hje
      have e1 := K.out.end1 j [z0, z0] (by have := K.out.lt; rw [show j + 2 - j = 2 by omega] at this; exact this) (by omega) rfl (Nat.le_refl _) m77
      rw [Nat.sub_self] at e1
      have E1 : Hid (Lt0 g X [m77, z0] (z.setCells g (j * 6) (i6 m77).toList) ∧ z.there g (j * 6) (i6 m77).size ∧ Below g z (z.setCells g (j * 6) (i6 m77).toList)) := e1
      have E2 : Hid (∀ u, Lt0 g X [m77, z0] u → Lt0 g X [m77, m78] (u.setCells g ((j + 1) * 6) (i6 m78).toList) ∧ u.there g ((j + 1) * 6) (i6 m78).size ∧ Below g u (u.setCells g ((j + 1) * 6) (i6 m78).toList)) := fun u hu => by
        have hml : (X.map (·.1)).length = j := by rw [List.length_map, K.out.len]
        have q := BxL.setAll kIt.len hu.bx (j + 1) (by rw [List.length_append, hml]; simp) m78
        rw [List.set_append_right _ _ (by omega), hml, show j + 1 - j = 1 by omega] at q
        refine ⟨⟨q.1, fun i y hy => ?_⟩, q.2, setCellsL_below g g (Nat.le_refl _) _ _ _⟩
        obtain ⟨h1, h2, h3, h4⟩ := hu.by_ i y hy
        exact ⟨h1, h2, h3, (setCellsL_other g _ (by omega) _ _ _).trans h4⟩
      have fin : Hid (Below g v z ∧ X.map pu = L.map pu ∧ X.length = j ∧ ∀ x ∈ X, x.1.a ≤ 9223372036854775807) := ⟨K.out.low, by rw [K.out.pu, List.take_of_length_le (by rw [hnn.out]; exact Nat.le_refl _)], K.out.len, K.out.a⟩
      have ia := i0.out j (by omega)
      have ib := i0.out (j + 1) (by omega)
      rw [show ((j + 1 : Nat) : Int) = (j : Int) + 1 by omega] at ib
      clear hlt K J hmb i0 e1
      go_wp2_with (first
        | ((with_reducible refine at_bu #[(0, .const (.int .u8 77))] [(0, .int .u8 77)] (i6 m77) ?_ ?_ ?_ b77.out ?_); kernel_rfl; rfl; kernel_rfl)
        | ((with_reducible refine wpList_store_mid ?_ 39 (.tmp 61) (.tmp 60) ?_ g (j * 6) (i6 m77) ?_ ?_ E1.out.2.1 (rt6s _) (one6 _) ?_); rfl; rfl; rfl; rfl; (with_reducible refine gen_world (z.setCells g (j * 6) (i6 m77).toList) (fun y => Lt0 g X [m77, z0] y ∧ Below g v y) ⟨E1.out.1, fin.out.1.trans E1.out.2.2⟩ ?_); intro y1 K1; have F2 : Hid (Lt0 g X [m77, m78] (y1.setCells g ((j + 1) * 6) (i6 m78).toList) ∧ y1.there g ((j + 1) * 6) (i6 m78).size ∧ Below g y1 (y1.setCells g ((j + 1) * 6) (i6 m78).toList)) := E2.out y1 K1.out.1)
        | ((with_reducible refine at_bu #[(0, .const (.int .u8 78))] [(0, .int .u8 78)] (i6 m78) ?_ ?_ ?_ b78.out ?_); kernel_rfl; rfl; kernel_rfl)
        | ((with_reducible refine wpList_store_mid ?_ 39 (.tmp 67) (.tmp 66) ?_ g ((j + 1) * 6) (i6 m78) ?_ ?_ F2.out.2.1 (rt6s _) (one6 _) ?_); rfl; rfl; rfl; rfl; (with_reducible refine gen_world (y1.setCells g ((j + 1) * 6) (i6 m78).toList) (fun y => Lt0 g X [m77, m78] y ∧ Below g v y) ⟨F2.out.1, K1.out.2.trans F2.out.2.2⟩ ?_); intro y2 K2))
      go_ret
      exact ⟨X, by first | rfl | simp, K2.out.2, K2.out.1, fin.out.2⟩
end Go.Proofs.YtmaedkbmjbggpaaDoor
