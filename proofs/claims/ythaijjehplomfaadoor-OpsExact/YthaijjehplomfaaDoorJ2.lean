/- Rows of values of any kind: where they lie, whose they are, an append of one, a store into one, rows grown side by side. -/
import Derived.Test.YthaijjehplomfaaDoorJ1
import Derived.ArgAppend
import Derived.Laws.IdiomCopy
import Derived.Laws.CopyOwn
import Derived.Laws.MakeOwn
import Derived.Laws.OwnMore
namespace Go.Proofs.YthaijjehplomfaaDoor
open Go Go.RowKit
set_option linter.unusedVariables false
set_option maxHeartbeats 400000
set_option maxRecDepth 20000

/-- Values of one kind, each in s cells. -/
structure KdL {α : Type} (T t : TypeId) (s bts : Nat) (c : α → List Value) : Prop where
  u : Tryd.prog.underlying T = some (.slice t)
  i : ∃ i z, Tryd.prog.info? t = some i ∧ i.zero = some z ∧ i.size = s ∧ i.bytes = bts ∧ z.cells.size = s
  len : ∀ x, (c x).length = s
  one : ∀ x, ∀ v ∈ c x, v.oneCell' = true
  s0 : 0 < s
  b0 : bts ≤ 1000
section
variable {α : Type} {T t : TypeId} {s bts : Nat} {c : α → List Value}

def rowL (c : α → List Value) (l : List α) : List Value := l.flatMap c
theorem rowL_cons (x : α) (l : List α) : rowL c (x :: l) = c x ++ rowL c l := rfl
theorem rowL_len (hc : ∀ x, (c x).length = s) (l : List α) : (rowL c l).length = l.length * s := by
  induction l with
  | nil => simp [rowL]
  | cons x l ih => rw [rowL_cons, List.length_append, hc, ih, List.length_cons, Nat.succ_mul, Nat.add_comm]
theorem rowL_app (a b : List α) : rowL c (a ++ b) = rowL c a ++ rowL c b := by simp [rowL]
theorem rowL_one (x : α) : rowL c [x] = c x := by simp [rowL]
theorem rowL_at (hc : ∀ x, (c x).length = s) (l : List α) : ∀ (j i : Nat) (x : α), l[j]? = some x → i < s → (rowL c l)[j * s + i]? = (c x)[i]? := by
  induction l with
  | nil => intro j i x h; simp at h
  | cons y l ih =>
    intro j i x h hi
    rw [rowL_cons]
    cases j with
    | zero =>
      simp at h
      subst h
      rw [Nat.zero_mul, Nat.zero_add, List.getElem?_append_left (by rw [hc]; exact hi)]
    | succ j =>
      simp only [List.getElem?_cons_succ] at h
      rw [List.getElem?_append_right (by rw [hc, Nat.succ_mul]; omega), hc, show (j + 1) * s + i - s = j * s + i by rw [Nat.succ_mul]; omega]
      exact ih j i x h hi
theorem rowL_cell (h1 : ∀ x, ∀ v ∈ c x, v.oneCell' = true) (l : List α) : ∀ v ∈ rowL c l, v.oneCell' = true := fun v hv => by
  unfold rowL at hv
  obtain ⟨x, _, hx⟩ := List.mem_flatMap.1 hv
  exact h1 x v hx
/-- A row that lies in memory. -/
def LiesL (s : Nat) (c : α → List Value) (x : World) (sp : Option Addr) (l : List α) : Prop := ∀ j a, l[j]? = some a → ∃ gb ob, sp = some ⟨gb, ob, none⟩ ∧ x.rangeAt gb (ob + j * s) (c a)
theorem LiesL.below {x y : World} {sp : Option Addr} {l : List α} (h : LiesL s c x sp l) (hb : Below x.heap.size x y) : LiesL s c y sp l := fun j a hj => by
  obtain ⟨gb, ob, e, k⟩ := h j a hj
  exact ⟨gb, ob, e, range_keep k hb⟩
/-- A row of its own. -/
def OwnL (t : TypeId) (s : Nat) (c : α → List Value) (B : Nat) (w : World) (v : Value) (l : List α) : Prop := w.ownsRow B t s v l.length (rowL c l)
theorem OwnL.nil (B : Nat) (w : World) : OwnL t s c B w (.slice none 0 0) [] := World.ownsRow_nil w B _ s
theorem OwnL.alloc {B : Nat} {w : World} {v : Value} {l : List α} (h : OwnL t s c B w v l) (o : Obj) : OwnL t s c B (w.alloc o) v l := World.ownsRow.alloc h o
theorem OwnL.keepB {B : Nat} {x y : World} {v : Value} {l : List α} (h : OwnL t s c B x v l) (hF : ∀ g, v.ownBlock = some g → y.heap[g]? = x.heap[g]?) : OwnL t s c B y v l := by
  refine ⟨h.1, ?_⟩
  rcases h.2 with h0 | ⟨g, cap, cur, hv, hb, hg, hr⟩
  · exact .inl h0
  · exact .inr ⟨g, cap, cur, hv, hb, (hF g (by rw [hv]; rfl)).trans hg, hr⟩
theorem OwnL.lt {B : Nat} {w : World} {v : Value} {l : List α} (h : OwnL t s c B w v l) (g : Nat) (e : v.ownBlock = some g) : B ≤ g ∧ g < w.heap.size := World.ownsRow.lt h g e
theorem OwnL.below {B : Nat} {x y : World} {v : Value} {l : List α} (h : OwnL t s c B x v l) (hb : Below x.heap.size x y) : OwnL t s c B y v l := h.keepB fun g e => hb.block g (h.lt g e).2
theorem OwnL.weak {w : World} {B B' : Nat} {v : Value} {l : List α} (h : OwnL t s c B w v l) (hB : B' ≤ B) : OwnL t s c B' w v l := by
  refine ⟨h.1, ?_⟩
  rcases h.2 with hn | ⟨g, cap, cur, h1, h2, h3⟩
  · exact .inl hn
  · exact .inr ⟨g, cap, cur, h1, Nat.le_trans hB h2, h3⟩
theorem OwnL.open (hc : ∀ x, (c x).length = s) {B : Nat} {w : World} {v : Value} {l : List α} (h : OwnL t s c B w v l) : ∃ sp cap, v = .slice sp l.length cap ∧ LiesL s c w sp l ∧ (∀ a, sp = some a → a.off = 0 ∧ a.spot = none ∧ B ≤ a.block ∧ a.block < w.heap.size) ∧ (∀ g, v.ownBlock = some g ↔ sp = some ⟨g, 0, none⟩) ∧ l.length ≤ cap := by
  have h0 := h
  obtain ⟨h1, h2⟩ := h
  rcases h2 with ⟨rfl, hn⟩ | ⟨g, cap, cur, rfl, hb, hg, hle, _⟩
  · refine ⟨none, 0, by rw [hn], fun j a hj => ?_, (fun a h => by cases h), (fun g => by simp [Value.ownBlock]), by omega⟩
    have := (List.getElem?_eq_some_iff.1 hj).1
    omega
  · refine ⟨some ⟨g, 0, none⟩, cap, rfl, fun j a hj => ⟨g, 0, rfl, fun i v hv => ?_⟩, (fun a h => by cases h; exact ⟨rfl, rfl, hb, heap_lt hg⟩), (fun g => by simp [Value.ownBlock]), hle⟩
    have hi : i < s := by have := (List.getElem?_eq_some_iff.1 hv).1; rw [hc] at this; exact this
    have := World.ownsRow.cells (g := g) h0 rfl (j * s + i) v (by rw [rowL_at hc l j i a hj hi]; exact hv)
    rw [Addr.add_lit] at this
    rw [Nat.add_assoc]
    exact this
/-- The block of an owned row has the row's type. -/
theorem OwnL.ty {B : Nat} {w : World} {v : Value} {l : List α} (h : OwnL t s c B w v l) (g : Nat) (e : v.ownBlock = some g) : ∃ cs, Bx w g cs t := by
  rcases h.2 with ⟨h0, _⟩ | ⟨gb, cap, cur, hv, _, hg, _⟩
  · rw [h0] at e; cases e
  · rw [hv] at e
    have e1 : gb = g := by simpa [Value.ownBlock] using e
    subst e1
    exact ⟨cur, hg⟩
theorem Bx.unlike {w : World} {b d t u : Nat} {cs ds : Array Value} (h : Bx w b cs t) (k : Bx w d ds u) (ht : t ≠ u) : b ≠ d := fun e => by
  subst e
  unfold Bx at h k
  rw [h] at k
  injection k with k
  injection k with _ k2 _
  exact ht k2
/-- Old memory stays, but for the cells of F. -/
structure CuL (B : Nat) (F : Nat → Nat → Prop) (w w' : World) : Prop where
  low : Below B w w'
  cell : ∀ g j, g < w.heap.size → ¬ F g j → w'.cell? ⟨g, j, none⟩ = w.cell? ⟨g, j, none⟩
  blk : ∀ g, g < w.heap.size → (∀ j, ¬ F g j) → w'.heap[g]? = w.heap[g]?
theorem CuL.refl (B : Nat) (F : Nat → Nat → Prop) (w : World) : CuL B F w w := ⟨Below.refl _ _, fun _ _ _ _ => rfl, fun _ _ _ => rfl⟩
theorem CuL.mono {B : Nat} {F G : Nat → Nat → Prop} {a b : World} (h : CuL B F a b) (k : ∀ g j, g < a.heap.size → F g j → G g j) : CuL B G a b := ⟨h.low, fun g j hg hG => h.cell g j hg fun hF => hG (k g j hg hF), fun g hg hG => h.blk g hg fun j hF => hG j (k g j hg hF)⟩
theorem CuL.of_below {B : Nat} {F : Nat → Nat → Prop} {a b : World} (h : Below a.heap.size a b) (hB : B ≤ a.heap.size) : CuL B F a b :=
  ⟨h.mono hB, fun g j hg _ => World.cell?_of_block (w := a) (a := ⟨g, j, none⟩) (h.block g hg), fun g hg _ => h.block g hg⟩
theorem spliceL_at {β : Type} (L : List β) (off : Nat) (cs : List β) (h : off + cs.length ≤ L.length) (k : Nat) : (splice L off cs)[k]? = if off ≤ k ∧ k < off + cs.length then cs[k - off]? else L[k]? := by
  unfold splice
  by_cases h1 : k < off
  · rw [List.getElem?_append_left (by simp; omega), List.getElem?_take, if_pos h1, if_neg (by omega)]
  · rw [List.getElem?_append_right (by simp; omega)]
    have e : k - (L.take off).length = k - off := by simp; omega
    rw [e]
    by_cases h2 : k < off + cs.length
    · rw [List.getElem?_append_left (by omega), if_pos (by omega)]
    · rw [List.getElem?_append_right (by omega), List.getElem?_drop, if_neg (by omega)]
      congr 1
      omega
theorem heapL_setCells (b : Nat) (t : TypeId) : ∀ (vs : List Value) (o : Nat) (w : World) (cur : Array Value), w.heap[b]? = some (.cells cur t (0, 0)) → o + vs.length ≤ cur.size → (w.setCells b o vs).heap[b]? = some (.cells (splice cur.toList o vs).toArray t (0, 0)) := by
  intro vs
  induction vs with
  | nil =>
    intro o w cur h hf
    show w.heap[b]? = _
    rw [h]
    have e : splice cur.toList o [] = cur.toList := by simp [splice]
    rw [e]
  | cons v r ih =>
    intro o w cur h hf
    simp only [List.length_cons] at hf
    have := ih (o + 1) (w.setCell ⟨b, o, none⟩ v) (cur.setIfInBounds o v) (heap_setCell_same w b o cur t v h) (by simp; omega)
    show ((w.setCell ⟨b, o, none⟩ v).setCells b (o + 1) r).heap[b]? = _
    rw [this]
    congr 3
    apply List.ext_getElem?
    intro k
    rw [spliceL_at _ _ _ (by simp; omega), spliceL_at _ _ _ (by simp; omega), Array.toList_setIfInBounds]
    simp only [List.length_cons]
    by_cases h1 : k = o
    · subst h1
      rw [if_neg (by omega), if_pos (by omega), Nat.sub_self, List.getElem?_set_self (by simp; omega)]
      rfl
    · by_cases h2 : o + 1 ≤ k ∧ k < o + 1 + r.length
      · rw [if_pos h2, if_pos (by omega), show k - o = (k - (o + 1)) + 1 by omega, List.getElem?_cons_succ]
      · rw [if_neg h2, if_neg (by omega), List.getElem?_set_ne (fun h => h1 h.symm)]
theorem setCellsL_other (b q : Nat) (hq : q ≠ b) : ∀ (vs : List Value) (o : Nat) (w : World), (w.setCells b o vs).heap[q]? = w.heap[q]? := by
  intro vs
  induction vs with
  | nil => intro o w; rfl
  | cons v r ih => intro o w; exact (ih (o + 1) _).trans (heap_setCell_other w ⟨b, o, none⟩ q v hq)
theorem setCellsL_below (B b : Nat) (hB : B ≤ b) : ∀ (vs : List Value) (o : Nat) (w : World), Below B w (w.setCells b o vs) := by
  intro vs
  induction vs with
  | nil => intro o w; exact Below.refl _ _
  | cons v r ih => intro o w; exact ((Below.refl B w).setCell (p := ⟨b, o, none⟩) hB v).trans (ih (o + 1) _)
theorem setCellsL_cu (B b o : Nat) (hB : B ≤ b) (vs : List Value) (w : World) : CuL B (fun g j => g = b ∧ o ≤ j ∧ j < o + vs.length) w (w.setCells b o vs) :=
  ⟨setCellsL_below B b hB vs o w, fun g j _ hF => World.cell?_setCells_out b vs o w ⟨g, j, none⟩ (fun hb _ => by
    rcases Nat.lt_or_ge j o with h | h
    · exact .inl h
    · right
      rcases Nat.lt_or_ge j (o + vs.length) with h2 | h2
      · exact absurd ⟨hb, h, h2⟩ hF
      · exact h2), fun g _ hF => by
    by_cases hg : g = b
    · subst hg
      cases vs with
      | nil => rfl
      | cons v r => exact absurd ⟨rfl, Nat.le_refl _, by simp⟩ (hF o)
    · exact setCellsL_other b g hg vs o w⟩
/-- What an append of one value leaves. -/
structure App1L (t : TypeId) (s : Nat) (c : α → List Value) (B : Nat) (v : Value) (l : List α) (x : α) (v' : Value) (w w' : World) : Prop where
  own : OwnL t s c B w' v' (l ++ [x])
  new : ∀ g, v'.ownBlock = some g → v.ownBlock = some g ∨ w.heap.size ≤ g
  cu : CuL B (fun g j => v.ownBlock = some g ∧ l.length * s ≤ j) w w'
theorem App1L.grew {B : Nat} {v : Value} {l : List α} {x : α} {v' : Value} {w w' : World} (hB : B ≤ w.heap.size) (h1 : w'.ownsRow w.heap.size t s v' (l.length + 1) (rowL c l ++ c x)) (h2 : w.grownBy w' none) : App1L t s c B v l x v' w w' := by
  have ho : OwnL t s c w.heap.size w' v' (l ++ [x]) := by
    unfold OwnL
    rw [rowL_app, List.length_append, rowL_one]
    exact h1
  exact ⟨ho.weak hB, fun g hg => .inr (ho.lt g hg).1, CuL.of_below ⟨h2.os, h2.tape, h2.output, h2.size, fun k hk => h2.block k hk (by simp)⟩ hB⟩
theorem at_appL (K : KdL T t s bts c) {ops : Array Oper} {rest : List Oper} {o : Oper} {a : Act} {w : World} {Q : Exit → Act → World → Prop} (hgd : o.guard = none) (sl x : Operand)
    (ho : o.op = .call { callee := .builtin .append, args := #[sl, x], argTypes := #[T, T] }) (B : Nat) (v : Value) (l : List α) (hs : a.eval sl = v) (hown : OwnL t s c B w v l)
    (g0 : Nat) (u : α) (hx : a.eval x = .slice (some ⟨g0, 0, none⟩) 1 1) (hu : Bx w g0 (c u).toArray t) (hn : l.length ≤ 100000000000) (hB : B ≤ w.heap.size)
    (k : ∀ v' w', Hid (App1L t s c B v l u v' w w') → wpList Tryd.prog ops Q rest (a.put o.dst v') w') : wpList Tryd.prog ops Q (o :: rest) a w := by
  obtain ⟨i, z, hi, hz0, hz1, hz2, hz3⟩ := K.i
  have hc : ∀ j u', (c u)[j]? = some u' → w.cell? ((⟨g0, 0, none⟩ : Addr).add j) = some u' := fun j u' h => by
    rw [Addr.add_lit, Nat.zero_add]
    exact hu.c j u' (by simpa using h)
  have hnews : ∀ y ∈ c u, y.oneCell' = true := K.one u
  have b1 : l.length + 1 ≤ maxLen := by unfold maxLen; omega
  have b2 : (l.length + 1) * bts ≤ 140737488355328 := Nat.le_trans (Nat.mul_le_mul (show l.length + 1 ≤ 100000000001 by omega) K.b0) (by decide)
  have hul : (c u).length = 1 * s := by rw [K.len, Nat.one_mul]
  have hown' := hown
  obtain ⟨hl, hor⟩ := hown
  have hlen := rowL_len K.len l
  rcases hor with ⟨rfl, hn0⟩ | ⟨g, cap, cur, rfl, hbg, hg, hnc, hcm, hcs, htake⟩
  · have hl0 : l = [] := List.eq_nil_of_length_eq_zero hn0
    subst hl0
    refine wpList_append_grows w hgd sl x T ho t i z s bts K.u hi hz0 hz1 hz2 hz3 K.s0 none 0 0 [] hs (fun _ => ⟨rfl, rfl⟩) (by simp) (fun b hb => by cases hb) ⟨g0, 0, none⟩ 1 1 (c u) hx hul hc hnews (by decide) b1 b2 ?_
    intro v' w' r1 r2
    exact k v' w' (App1L.grew hB r1 r2)
  · by_cases hr : l.length + 1 ≤ cap
    · have hfit : l.length * s + s ≤ cur.size := by
        rw [hcs]
        have := Nat.mul_le_mul_right s hr
        rw [Nat.succ_mul] at this
        exact this
      refine wpList_append_arg w hgd sl x T ho t i z s bts K.u hi hz0 hz1 hz2 hz3 K.s0 g 0 l.length cap (rowL c l) hs hl ?_ ⟨g0, 0, none⟩ 1 1 (c u) hx hul hc hnews ?_ b1 b2 ?_ (fun h => absurd hr (by omega))
      · intro j u' hj
        have := World.ownsRow.cells (g := g) hown' rfl j u' hj
        rwa [Addr.add_lit] at this
      · intro _ j hj
        rw [hul, Nat.one_mul] at hj
        refine ⟨?_, frozen_heap hg _⟩
        rw [cell_heap hg, Array.getElem?_eq_getElem (by omega)]
        rfl
      · intro _
        refine k _ _ ?_
        have e0 : 0 + l.length * s = l.length * s := by omega
        rw [e0]
        refine ⟨⟨by rw [rowL_len K.len], .inr ⟨g, cap, _, by rw [List.length_append]; rfl, hbg, heapL_setCells g _ _ _ w cur hg (by rw [K.len]; omega), by rw [List.length_append]; exact hr, hcm, ?_, ?_⟩⟩, fun g' h => .inl h, ?_⟩
        · have := length_splice cur.toList (l.length * s) (c u) (by rw [K.len, Array.length_toList]; omega)
          rw [List.size_toArray, this, Array.length_toList, hcs]
        · rw [rowL_app, List.length_append, rowL_one]
          simp only [List.length_cons, List.length_nil, Nat.zero_add]
          unfold splice
          rw [← List.append_assoc, htake, List.take_append_of_le_length (by rw [List.length_append, hlen, K.len, Nat.succ_mul]; omega)]
          exact List.take_of_length_le (by rw [List.length_append, hlen, K.len, Nat.succ_mul]; omega)
        · exact (setCellsL_cu B g _ hbg _ w).mono fun g' j _ hF => ⟨by rw [hF.1]; rfl, hF.2.1⟩
    · have hcells := World.ownsRow.cells (g := g) hown' rfl
      refine wpList_append_grows w hgd sl x T ho t i z s bts K.u hi hz0 hz1 hz2 hz3 K.s0 (some ⟨g, 0, none⟩) l.length cap (rowL c l) hs (fun h => by cases h) hl (fun b hb => by cases hb; exact hcells) ⟨g0, 0, none⟩ 1 1 (c u) hx hul hc hnews (by omega) b1 b2 ?_
      intro v' w' r1 r2
      exact k v' w' (App1L.grew hB r1 r2)
end
end Go.Proofs.YthaijjehplomfaaDoor
