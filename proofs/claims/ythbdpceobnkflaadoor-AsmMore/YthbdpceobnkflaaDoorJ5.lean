/- Rows of values of any kind: where they lie, whose they are, an append of one, a store into one, rows grown side by side. How many bytes an item has; which items of a source may be: the document's Size and Check. Which items may be: the program's. -/
import Derived.Test.YthbdpceobnkflaaDoorJ1
import Derived.ArgAppend
import Derived.Laws.IdiomCopy
import Derived.Laws.CopyOwn
import Derived.Laws.MakeOwn
import Derived.Laws.OwnMore
import Derived.Test.YthbdpceobnkflaaDoorJ4
namespace Go.Proofs.YthbdpceobnkflaaDoor
open Go Go.RowKit
set_option linter.unusedVariables false
set_option maxHeartbeats 400000
set_option maxRecDepth 20000

/-- Values of one kind, each in s cells. -/
structure KdL {α : Type} (T t : TypeId) (s bts : Nat) (c : α → List Value) : Prop where
  u : Tryd.prog.underlying T = some (.slice t)
  i : ∃ i z, Tryd.prog.info? t = some i ∧ i.zero = some z ∧ i.size = s ∧ i.bytes = bts ∧ z.cells.size = s
  len : ∀ x, (c x).length = s
  one : ∀ x, ∀ v ∈ c x, v.oneCell' = true
  s0 : 0 < s
  b0 : bts ≤ 1000
section
variable {α : Type} {T t : TypeId} {s bts : Nat} {c : α → List Value}

def rowL (c : α → List Value) (l : List α) : List Value := l.flatMap c
theorem rowL_cons (x : α) (l : List α) : rowL c (x :: l) = c x ++ rowL c l := rfl
theorem rowL_len (hc : ∀ x, (c x).length = s) (l : List α) : (rowL c l).length = l.length * s := by
  induction l with
  | nil => simp [rowL]
  | cons x l ih => rw [rowL_cons, List.length_append, hc, ih, List.length_cons, Nat.succ_mul, Nat.add_comm]
theorem rowL_app (a b : List α) : rowL c (a ++ b) = rowL c a ++ rowL c b := by simp [rowL]
theorem rowL_one (x : α) : rowL c [x] = c x := by simp [rowL]
theorem rowL_at (hc : ∀ x, (c x).length = s) (l : List α) : ∀ (j i : Nat) (x : α), l[j]? = some x → i < s → (rowL c l)[j * s + i]? = (c x)[i]? := by
  induction l with
  | nil => intro j i x h; simp at h
  | cons y l ih =>
    intro j i x h hi
    rw [rowL_cons]
    cases j with
    | zero =>
      simp at h
      subst h
      rw [Nat.zero_mul, Nat.zero_add, List.getElem?_append_left (by rw [hc]; exact hi)]
    | succ j =>
      simp only [List.getElem?_cons_succ] at h
      rw [List.getElem?_append_right (by rw [hc, Nat.succ_mul]; omega), hc, show (j + 1) * s + i - s = j * s + i by rw [Nat.succ_mul]; omega]
      exact ih j i x h hi
theorem rowL_cell (h1 : ∀ x, ∀ v ∈ c x, v.oneCell' = true) (l : List α) : ∀ v ∈ rowL c l, v.oneCell' = true := fun v hv => by
  unfold rowL at hv
  obtain ⟨x, _, hx⟩ := List.mem_flatMap.1 hv
  exact h1 x v hx
/-- A row that lies in memory. -/
def LiesL (s : Nat) (c : α → List Value) (x : World) (sp : Option Addr) (l : List α) : Prop := ∀ j a, l[j]? = some a → ∃ gb ob, sp = some ⟨gb, ob, none⟩ ∧ x.rangeAt gb (ob + j * s) (c a)
theorem LiesL.below {x y : World} {sp : Option Addr} {l : List α} (h : LiesL s c x sp l) (hb : Below x.heap.size x y) : LiesL s c y sp l := fun j a hj => by
  obtain ⟨gb, ob, e, k⟩ := h j a hj
  exact ⟨gb, ob, e, range_keep k hb⟩
/-- A row of its own. -/
def OwnL (t : TypeId) (s : Nat) (c : α → List Value) (B : Nat) (w : World) (v : Value) (l : List α) : Prop := w.ownsRow B t s v l.length (rowL c l)
theorem OwnL.nil (B : Nat) (w : World) : OwnL t s c B w (.slice none 0 0) [] := World.ownsRow_nil w B _ s
theorem OwnL.alloc {B : Nat} {w : World} {v : Value} {l : List α} (h : OwnL t s c B w v l) (o : Obj) : OwnL t s c B (w.alloc o) v l := World.ownsRow.alloc h o
theorem OwnL.keepB {B : Nat} {x y : World} {v : Value} {l : List α} (h : OwnL t s c B x v l) (hF : ∀ g, v.ownBlock = some g → y.heap[g]? = x.heap[g]?) : OwnL t s c B y v l := by
  refine ⟨h.1, ?_⟩
  rcases h.2 with h0 | ⟨g, cap, cur, hv, hb, hg, hr⟩
  · exact .inl h0
  · exact .inr ⟨g, cap, cur, hv, hb, (hF g (by rw [hv]; rfl)).trans hg, hr⟩
theorem OwnL.lt {B : Nat} {w : World} {v : Value} {l : List α} (h : OwnL t s c B w v l) (g : Nat) (e : v.ownBlock = some g) : B ≤ g ∧ g < w.heap.size := World.ownsRow.lt h g e
theorem OwnL.below {B : Nat} {x y : World} {v : Value} {l : List α} (h : OwnL t s c B x v l) (hb : Below x.heap.size x y) : OwnL t s c B y v l := h.keepB fun g e => hb.block g (h.lt g e).2
theorem OwnL.weak {w : World} {B B' : Nat} {v : Value} {l : List α} (h : OwnL t s c B w v l) (hB : B' ≤ B) : OwnL t s c B' w v l := by
  refine ⟨h.1, ?_⟩
  rcases h.2 with hn | ⟨g, cap, cur, h1, h2, h3⟩
  · exact .inl hn
  · exact .inr ⟨g, cap, cur, h1, Nat.le_trans hB h2, h3⟩
theorem OwnL.open (hc : ∀ x, (c x).length = s) {B : Nat} {w : World} {v : Value} {l : List α} (h : OwnL t s c B w v l) : ∃ sp cap, v = .slice sp l.length cap ∧ LiesL s c w sp l ∧ (∀ a, sp = some a → a.off = 0 ∧ a.spot = none ∧ B ≤ a.block ∧ a.block < w.heap.size) ∧ (∀ g, v.ownBlock = some g ↔ sp = some ⟨g, 0, none⟩) ∧ l.length ≤ cap := by
  have h0 := h
  obtain ⟨h1, h2⟩ := h
  rcases h2 with ⟨rfl, hn⟩ | ⟨g, cap, cur, rfl, hb, hg, hle, _⟩
  · refine ⟨none, 0, by rw [hn], fun j a hj => ?_, (fun a h => by cases h), (fun g => by simp [Value.ownBlock]), by omega⟩
    have := (List.getElem?_eq_some_iff.1 hj).1
    omega
  · refine ⟨some ⟨g, 0, none⟩, cap, rfl, fun j a hj => ⟨g, 0, rfl, fun i v hv => ?_⟩, (fun a h => by cases h; exact ⟨rfl, rfl, hb, heap_lt hg⟩), (fun g => by simp [Value.ownBlock]), hle⟩
    have hi : i < s := by have := (List.getElem?_eq_some_iff.1 hv).1; rw [hc] at this; exact this
    have := World.ownsRow.cells (g := g) h0 rfl (j * s + i) v (by rw [rowL_at hc l j i a hj hi]; exact hv)
    rw [Addr.add_lit] at this
    rw [Nat.add_assoc]
    exact this
/-- The block of an owned row has the row's type. -/
theorem OwnL.ty {B : Nat} {w : World} {v : Value} {l : List α} (h : OwnL t s c B w v l) (g : Nat) (e : v.ownBlock = some g) : ∃ cs, Bx w g cs t := by
  rcases h.2 with ⟨h0, _⟩ | ⟨gb, cap, cur, hv, _, hg, _⟩
  · rw [h0] at e; cases e
  · rw [hv] at e
    have e1 : gb = g := by simpa [Value.ownBlock] using e
    subst e1
    exact ⟨cur, hg⟩
theorem Bx.unlike {w : World} {b d t u : Nat} {cs ds : Array Value} (h : Bx w b cs t) (k : Bx w d ds u) (ht : t ≠ u) : b ≠ d := fun e => by
  subst e
  unfold Bx at h k
  rw [h] at k
  injection k with k
  injection k with _ k2 _
  exact ht k2
/-- Old memory stays, but for the cells of F. -/
structure CuL (B : Nat) (F : Nat → Nat → Prop) (w w' : World) : Prop where
  low : Below B w w'
  cell : ∀ g j, g < w.heap.size → ¬ F g j → w'.cell? ⟨g, j, none⟩ = w.cell? ⟨g, j, none⟩
  blk : ∀ g, g < w.heap.size → (∀ j, ¬ F g j) → w'.heap[g]? = w.heap[g]?
theorem CuL.refl (B : Nat) (F : Nat → Nat → Prop) (w : World) : CuL B F w w := ⟨Below.refl _ _, fun _ _ _ _ => rfl, fun _ _ _ => rfl⟩
theorem CuL.mono {B : Nat} {F G : Nat → Nat → Prop} {a b : World} (h : CuL B F a b) (k : ∀ g j, g < a.heap.size → F g j → G g j) : CuL B G a b := ⟨h.low, fun g j hg hG => h.cell g j hg fun hF => hG (k g j hg hF), fun g hg hG => h.blk g hg fun j hF => hG j (k g j hg hF)⟩
theorem CuL.of_below {B : Nat} {F : Nat → Nat → Prop} {a b : World} (h : Below a.heap.size a b) (hB : B ≤ a.heap.size) : CuL B F a b :=
  ⟨h.mono hB, fun g j hg _ => World.cell?_of_block (w := a) (a := ⟨g, j, none⟩) (h.block g hg), fun g hg _ => h.block g hg⟩
theorem spliceL_at {β : Type} (L : List β) (off : Nat) (cs : List β) (h : off + cs.length ≤ L.length) (k : Nat) : (splice L off cs)[k]? = if off ≤ k ∧ k < off + cs.length then cs[k - off]? else L[k]? := by
  unfold splice
  by_cases h1 : k < off
  · rw [List.getElem?_append_left (by simp; omega), List.getElem?_take, if_pos h1, if_neg (by omega)]
  · rw [List.getElem?_append_right (by simp; omega)]
    have e : k - (L.take off).length = k - off := by simp; omega
    rw [e]
    by_cases h2 : k < off + cs.length
    · rw [List.getElem?_append_left (by omega), if_pos (by omega)]
    · rw [List.getElem?_append_right (by omega), List.getElem?_drop, if_neg (by omega)]
      congr 1
      omega
theorem heapL_setCells (b : Nat) (t : TypeId) : ∀ (vs : List Value) (o : Nat) (w : World) (cur : Array Value), w.heap[b]? = some (.cells cur t (0, 0)) → o + vs.length ≤ cur.size → (w.setCells b o vs).heap[b]? = some (.cells (splice cur.toList o vs).toArray t (0, 0)) := by
  intro vs
  induction vs with
  | nil =>
    intro o w cur h hf
    show w.heap[b]? = _
    rw [h]
    have e : splice cur.toList o [] = cur.toList := by simp [splice]
    rw [e]
  | cons v r ih =>
    intro o w cur h hf
    simp only [List.length_cons] at hf
    have := ih (o + 1) (w.setCell ⟨b, o, none⟩ v) (cur.setIfInBounds o v) (heap_setCell_same w b o cur t v h) (by simp; omega)
    show ((w.setCell ⟨b, o, none⟩ v).setCells b (o + 1) r).heap[b]? = _
    rw [this]
    congr 3
    apply List.ext_getElem?
    intro k
    rw [spliceL_at _ _ _ (by simp; omega), spliceL_at _ _ _ (by simp; omega), Array.toList_setIfInBounds]
    simp only [List.length_cons]
    by_cases h1 : k = o
    · subst h1
      rw [if_neg (by omega), if_pos (by omega), Nat.sub_self, List.getElem?_set_self (by simp; omega)]
      rfl
    · by_cases h2 : o + 1 ≤ k ∧ k < o + 1 + r.length
      · rw [if_pos h2, if_pos (by omega), show k - o = (k - (o + 1)) + 1 by omega, List.getElem?_cons_succ]
      · rw [if_neg h2, if_neg (by omega), List.getElem?_set_ne (fun h => h1 h.symm)]
theorem setCellsL_other (b q : Nat) (hq : q ≠ b) : ∀ (vs : List Value) (o : Nat) (w : World), (w.setCells b o vs).heap[q]? = w.heap[q]? := by
  intro vs
  induction vs with
  | nil => intro o w; rfl
  | cons v r ih => intro o w; exact (ih (o + 1) _).trans (heap_setCell_other w ⟨b, o, none⟩ q v hq)
theorem setCellsL_below (B b : Nat) (hB : B ≤ b) : ∀ (vs : List Value) (o : Nat) (w : World), Below B w (w.setCells b o vs) := by
  intro vs
  induction vs with
  | nil => intro o w; exact Below.refl _ _
  | cons v r ih => intro o w; exact ((Below.refl B w).setCell (p := ⟨b, o, none⟩) hB v).trans (ih (o + 1) _)
theorem setCellsL_cu (B b o : Nat) (hB : B ≤ b) (vs : List Value) (w : World) : CuL B (fun g j => g = b ∧ o ≤ j ∧ j < o + vs.length) w (w.setCells b o vs) :=
  ⟨setCellsL_below B b hB vs o w, fun g j _ hF => World.cell?_setCells_out b vs o w ⟨g, j, none⟩ (fun hb _ => by
    rcases Nat.lt_or_ge j o with h | h
    · exact .inl h
    · right
      rcases Nat.lt_or_ge j (o + vs.length) with h2 | h2
      · exact absurd ⟨hb, h, h2⟩ hF
      · exact h2), fun g _ hF => by
    by_cases hg : g = b
    · subst hg
      cases vs with
      | nil => rfl
      | cons v r => exact absurd ⟨rfl, Nat.le_refl _, by simp⟩ (hF o)
    · exact setCellsL_other b g hg vs o w⟩
/-- What an append of one value leaves. -/
structure App1L (t : TypeId) (s : Nat) (c : α → List Value) (B : Nat) (v : Value) (l : List α) (x : α) (v' : Value) (w w' : World) : Prop where
  own : OwnL t s c B w' v' (l ++ [x])
  new : ∀ g, v'.ownBlock = some g → v.ownBlock = some g ∨ w.heap.size ≤ g
  cu : CuL B (fun g j => v.ownBlock = some g ∧ l.length * s ≤ j) w w'
theorem App1L.grew {B : Nat} {v : Value} {l : List α} {x : α} {v' : Value} {w w' : World} (hB : B ≤ w.heap.size) (h1 : w'.ownsRow w.heap.size t s v' (l.length + 1) (rowL c l ++ c x)) (h2 : w.grownBy w' none) : App1L t s c B v l x v' w w' := by
  have ho : OwnL t s c w.heap.size w' v' (l ++ [x]) := by
    unfold OwnL
    rw [rowL_app, List.length_append, rowL_one]
    exact h1
  exact ⟨ho.weak hB, fun g hg => .inr (ho.lt g hg).1, CuL.of_below ⟨h2.os, h2.tape, h2.output, h2.size, fun k hk => h2.block k hk (by simp)⟩ hB⟩
theorem at_appL (K : KdL T t s bts c) {ops : Array Oper} {rest : List Oper} {o : Oper} {a : Act} {w : World} {Q : Exit → Act → World → Prop} (hgd : o.guard = none) (sl x : Operand)
    (ho : o.op = .call { callee := .builtin .append, args := #[sl, x], argTypes := #[T, T] }) (B : Nat) (v : Value) (l : List α) (hs : a.eval sl = v) (hown : OwnL t s c B w v l)
    (g0 : Nat) (u : α) (hx : a.eval x = .slice (some ⟨g0, 0, none⟩) 1 1) (hu : Bx w g0 (c u).toArray t) (hn : l.length ≤ 100000000000) (hB : B ≤ w.heap.size)
    (k : ∀ v' w', Hid (App1L t s c B v l u v' w w') → wpList Tryd.prog ops Q rest (a.put o.dst v') w') : wpList Tryd.prog ops Q (o :: rest) a w := by
  obtain ⟨i, z, hi, hz0, hz1, hz2, hz3⟩ := K.i
  have hc : ∀ j u', (c u)[j]? = some u' → w.cell? ((⟨g0, 0, none⟩ : Addr).add j) = some u' := fun j u' h => by
    rw [Addr.add_lit, Nat.zero_add]
    exact hu.c j u' (by simpa using h)
  have hnews : ∀ y ∈ c u, y.oneCell' = true := K.one u
  have b1 : l.length + 1 ≤ maxLen := by unfold maxLen; omega
  have b2 : (l.length + 1) * bts ≤ 140737488355328 := Nat.le_trans (Nat.mul_le_mul (show l.length + 1 ≤ 100000000001 by omega) K.b0) (by decide)
  have hul : (c u).length = 1 * s := by rw [K.len, Nat.one_mul]
  have hown' := hown
  obtain ⟨hl, hor⟩ := hown
  have hlen := rowL_len K.len l
  rcases hor with ⟨rfl, hn0⟩ | ⟨g, cap, cur, rfl, hbg, hg, hnc, hcm, hcs, htake⟩
  · have hl0 : l = [] := List.eq_nil_of_length_eq_zero hn0
    subst hl0
    refine wpList_append_grows w hgd sl x T ho t i z s bts K.u hi hz0 hz1 hz2 hz3 K.s0 none 0 0 [] hs (fun _ => ⟨rfl, rfl⟩) (by simp) (fun b hb => by cases hb) ⟨g0, 0, none⟩ 1 1 (c u) hx hul hc hnews (by decide) b1 b2 ?_
    intro v' w' r1 r2
    exact k v' w' (App1L.grew hB r1 r2)
  · by_cases hr : l.length + 1 ≤ cap
    · have hfit : l.length * s + s ≤ cur.size := by
        rw [hcs]
        have := Nat.mul_le_mul_right s hr
        rw [Nat.succ_mul] at this
        exact this
      refine wpList_append_arg w hgd sl x T ho t i z s bts K.u hi hz0 hz1 hz2 hz3 K.s0 g 0 l.length cap (rowL c l) hs hl ?_ ⟨g0, 0, none⟩ 1 1 (c u) hx hul hc hnews ?_ b1 b2 ?_ (fun h => absurd hr (by omega))
      · intro j u' hj
        have := World.ownsRow.cells (g := g) hown' rfl j u' hj
        rwa [Addr.add_lit] at this
      · intro _ j hj
        rw [hul, Nat.one_mul] at hj
        refine ⟨?_, frozen_heap hg _⟩
        rw [cell_heap hg, Array.getElem?_eq_getElem (by omega)]
        rfl
      · intro _
        refine k _ _ ?_
        have e0 : 0 + l.length * s = l.length * s := by omega
        rw [e0]
        refine ⟨⟨by rw [rowL_len K.len], .inr ⟨g, cap, _, by rw [List.length_append]; rfl, hbg, heapL_setCells g _ _ _ w cur hg (by rw [K.len]; omega), by rw [List.length_append]; exact hr, hcm, ?_, ?_⟩⟩, fun g' h => .inl h, ?_⟩
        · have := length_splice cur.toList (l.length * s) (c u) (by rw [K.len, Array.length_toList]; omega)
          rw [List.size_toArray, this, Array.length_toList, hcs]
        · rw [rowL_app, List.length_append, rowL_one]
          simp only [List.length_cons, List.length_nil, Nat.zero_add]
          unfold splice
          rw [← List.append_assoc, htake, List.take_append_of_le_length (by rw [List.length_append, hlen, K.len, Nat.succ_mul]; omega)]
          exact List.take_of_length_le (by rw [List.length_append, hlen, K.len, Nat.succ_mul]; omega)
        · exact (setCellsL_cu B g _ hbg _ w).mono fun g' j _ hF => ⟨by rw [hF.1]; rfl, hF.2.1⟩
    · have hcells := World.ownsRow.cells (g := g) hown' rfl
      refine wpList_append_grows w hgd sl x T ho t i z s bts K.u hi hz0 hz1 hz2 hz3 K.s0 (some ⟨g, 0, none⟩) l.length cap (rowL c l) hs (fun h => by cases h) hl (fun b hb => by cases hb; exact hcells) ⟨g0, 0, none⟩ 1 1 (c u) hx hul hc hnews (by omega) b1 b2 ?_
      intro v' w' r1 r2
      exact k v' w' (App1L.grew hB r1 r2)
theorem rowL_set (hc : ∀ x, (c x).length = s) (x : List α) : ∀ (k : Nat) (e : α), k < x.length → rowL c (x.set k e) = splice (rowL c x) (k * s) (c e) := by
  induction x with
  | nil => intro k e h; simp at h
  | cons y x ih =>
    intro k e h
    cases k with
    | zero =>
      rw [List.set_cons_zero, rowL_cons, rowL_cons]
      unfold splice
      rw [Nat.zero_mul, List.take_zero, List.nil_append, Nat.zero_add, hc, ← hc y, List.drop_left]
    | succ k =>
      simp only [List.length_cons] at h
      rw [List.set_cons_succ, rowL_cons, rowL_cons, ih k e (by omega)]
      unfold splice
      have e1 : (k + 1) * s = (c y).length + k * s := by rw [hc, Nat.succ_mul, Nat.add_comm]
      rw [e1, List.take_length_add_append, List.append_assoc, Nat.add_assoc, List.drop_length_add_append]
/-- A list that grows, behind w. -/
structure KL (t : TypeId) (s : Nat) (c : α → List Value) (w : World) (v : Value) (l : List α) (y : World) : Prop where
  own : OwnL t s c w.heap.size y v l
  low : Below w.heap.size w y
theorem KL.nil (w : World) : KL t s c w (.slice none 0 0) [] w := ⟨OwnL.nil _ _, Below.refl _ _⟩
theorem KL.below {w y z : World} {v : Value} {l : List α} (h : KL t s c w v l y) (hb : Below y.heap.size y z) : KL t s c w v l z := ⟨h.own.below hb, h.low.trans (hb.mono h.low.size)⟩
theorem KL.add {w y w' : World} {v v' : Value} {l : List α} {x : α} {o : Obj} (h : KL t s c w v l y) (a : App1L t s c w.heap.size v l x v' (y.alloc o) w') : KL t s c w v' (l ++ [x]) w' := ⟨a.own, (h.low.alloc h.low.size o).trans a.cu.low⟩
end
end Go.Proofs.YthbdpceobnkflaaDoor

namespace Go.Proofs.YthbdpceobnkflaaDoor
open Go Go.RowKit
set_option linter.unusedVariables false
set_option maxHeartbeats 3000000
set_option maxRecDepth 20000

def sizeI (r : Ri) : Int := if mayI r then (if r.k = 2 then (match opOf r.n with | some n => ((lay (fm n * 3) : Nat) : Int) | none => 0) else if r.k = 3 then (r.m : Int) else if r.k = 5 then 2 else 0) else 0
theorem mayI_code {r : Ri} (h : mayI r = true) (hk : r.k = 2) : ∃ n, opOf r.n = some n := by
  unfold mayI at h
  rw [if_pos hk] at h
  unfold codeI at h
  rcases e : opOf r.n with _ | n
  · rw [e] at h; cases h
  · exact ⟨n, rfl⟩
theorem tup_ret {a b c d : Int} (h : a = c) (h' : b = d) : Ending.returned (.tuple #[.int .i64 a, .int .i64 b]) = .returned (.tuple #[.int .i64 c, .int .i64 d]) := by rw [h, h']

/-- Items that lie in a row. -/
def c6 (r : Ri) : List Value := (i6 r).toList
abbrev LI (x : World) (sp : Option Addr) (l : List Ri) : Prop := LiesL 6 c6 x sp l
def badI (l : List Ri) : Option Nat := l.findIdx? fun r => !mayI r
def checkE (l : List Ri) : Int := if 4096 < l.length then 2 else if (badI l).isSome then 130 else 0
def checkN (l : List Ri) : Int := if 4096 < l.length then 0 else ((badI l).getD 0 : Nat)
theorem badI_some {l : List Ri} {j : Nat} (h : ∀ i (hi : i < l.length), i < j → mayI l[i] = true) (hj : j < l.length) (hb : mayI l[j] = false) : badI l = some j := by
  unfold badI
  rw [List.findIdx?_eq_some_iff_getElem]
  refine ⟨hj, by rw [hb]; rfl, fun i hi => ?_⟩
  rw [h i (by omega) hi]
  simp
theorem badI_none {l : List Ri} (h : ∀ i (hi : i < l.length), mayI l[i] = true) : badI l = none := by
  unfold badI
  rw [List.findIdx?_eq_none_iff]
  intro x hx
  obtain ⟨i, hi, rfl⟩ := List.getElem_of_mem hx
  rw [h i hi]
  rfl

end Go.Proofs.YthbdpceobnkflaaDoor

namespace Go.Proofs.YthbdpceobnkflaaDoor
open Go Go.RowKit
set_option linter.unusedVariables false
set_option maxHeartbeats 3000000
set_option maxRecDepth 20000

def lowC (n : Nat) : Nat := if fm n = 2 then (if nmB n = [76, 68, 78] then 1 else 0) else if fm n = 3 then 1 else 0
def highC (f : Nat) : Nat := if f = 2 then 15 else if f = 3 then 7 else if f = 4 ∨ f = 5 then 255 else if f = 6 then 65535 else 0
theorem lowC_tab (n : Nat) (h : n < 256) : bs n = n → held n (fm n) = lowC n := by revert n; decide +kernel
theorem highC_tab (n : Nat) (h : n < 256) : lay (fm n * 3 + 2) = highC (fm n) := by revert n; decide +kernel
theorem lowC_name (n : Nat) : (nm n = ⟨#[76, 68, 78]⟩) ↔ nmB n = [76, 68, 78] := by
  rw [nm_eq]
  constructor
  · intro h
    have := congrArg (fun s => s.data.toList) h
    simpa using this
  · intro h; rw [h]
theorem opOf_bsC {S : ByteArray} {n : Nat} (h : opOf S = some n) : bs n = n := by
  have h1 := opOf_lt h
  have h2 := opOf_nm n h1.1
  rw [h1.2, h] at h2
  injection h2 with h2
  exact h2.symm
theorem codeC_may {S : ByteArray} {n : Nat} {A : Int} (ho : opOf S = some n) : (lowI S (fm n) ≤ A ∧ A ≤ highI (fm n)) ↔ may n A := by
  obtain ⟨h1, h2⟩ := opOf_lt ho
  have e1 : lowI S (fm n) = (held n (fm n) : Nat) := by
    rw [lowC_tab n h1 (opOf_bsC ho)]
    unfold lowI lowC
    rw [← h2]
    split
    · by_cases h3 : nmB n = [76, 68, 78]
      · rw [if_pos h3, if_pos ((lowC_name n).2 h3)]; rfl
      · rw [if_neg h3, if_neg (fun h => h3 ((lowC_name n).1 h))]; rfl
    · split <;> rfl
  have e2 : highI (fm n) = (lay (fm n * 3 + 2) : Nat) := by
    rw [highC_tab n h1]
    unfold highI highC
    repeat' split
    all_goals rfl
  unfold may
  rw [e1, e2]
/-- Encode's error. -/
def encE (S : ByteArray) (A : Int) : Int := match opOf S with
  | none => 20
  | some n => if mayB n A then 0 else 21
theorem enc_any (S : ByteArray) (A : Int) (w : World) (T : Tabs w) : Calls Tryd.prog 31 #[.agg #[.string S, .int .i64 A]] w fun e w' => ∃ X, e = .returned (.tuple #[X, .int .i64 (encE S A)]) ∧ Below w.heap.size w w' := by
  unfold encE
  rcases ho : opOf S with _ | n
  · refine (enc_name S A ho w T).mono ?_
    rintro e w' ⟨rfl, h⟩
    exact ⟨_, rfl, h⟩
  · by_cases hm : may n A
    · refine (enc_good S A n ho hm w T).mono ?_
      rintro e w' ⟨b, _, rfl, _, h⟩
      refine ⟨.slice (some ⟨b, 0, none⟩) (encB n A).length (encB n A).length, ?_, h⟩
      show _ = Ending.returned (.tuple #[.slice (some ⟨b, 0, none⟩) (encB n A).length (encB n A).length, .int .i64 (if mayB n A then 0 else 21)])
      rw [if_pos ((mayB_iff n A).2 hm)]
    · refine (enc_bad S A n ho hm w T).mono ?_
      rintro e w' ⟨rfl, h⟩
      refine ⟨.slice none 0 0, ?_, h⟩
      show _ = Ending.returned (.tuple #[.slice none 0 0, .int .i64 (if mayB n A then 0 else 21)])
      rw [if_neg (fun h => hm ((mayB_iff n A).1 h))]
/-- An instruction's name, operand and label. -/
def codeM (r : Ri) : Bool := if r.p = 0 then decide (encE r.n r.a = 0) && decide (r.l.size = 0) else match opOf r.n with
  | none => false
  | some n => takesB (fm n) r.p && (isNm r.l && decide (r.a = 0))
theorem codeI_is (r : Ri) : codeI r = (codeM r && decide (r.m = 0)) := by
  unfold codeI codeM
  rcases ho : opOf r.n with _ | n
  · simp only
    split
    · unfold encE; rw [ho]; rfl
    · rfl
  · show codeF (fm n) r = _
    unfold codeF
    by_cases hp : r.p = 0
    · rw [if_pos hp, if_pos hp]
      have e : decide (encE r.n r.a = 0) = (decide (lowI r.n (fm n) ≤ r.a) && decide (r.a ≤ highI (fm n))) := by
        rw [Bool.eq_iff_iff, Bool.and_eq_true, decide_eq_true_iff, decide_eq_true_iff, decide_eq_true_iff, codeC_may ho]
        unfold encE
        rw [ho]
        show (if mayB n r.a = true then (0 : Int) else 21) = 0 ↔ _
        by_cases h : mayB n r.a = true
        · rw [if_pos h]; exact ⟨fun _ => (mayB_iff n r.a).1 h, fun _ => rfl⟩
        · rw [if_neg h]; exact ⟨fun h' => (by cases h'), fun h' => absurd ((mayB_iff n r.a).2 h') h⟩
      rw [e]
      generalize decide (r.m = 0) = a1
      generalize decide (r.l.size = 0) = a2
      generalize decide (lowI r.n (fm n) ≤ r.a) = a3
      generalize decide (r.a ≤ highI (fm n)) = a4
      revert a1 a2 a3 a4
      decide
    · rw [if_neg hp, if_neg hp]
      have e : takesB (fm n) r.p = (if fm n = 4 then decide (r.p = 2 ∨ r.p = 3) else if fm n = 5 ∨ fm n = 6 then decide (r.p = 1) else false) := by
        unfold takesB
        by_cases f4 : fm n = 4
        · rw [if_pos (by omega), if_pos f4]
        · rw [if_neg (by omega), if_neg f4]
          by_cases f5 : fm n = 5 ∨ fm n = 6
          · rw [if_pos (by omega), if_pos f5]
          · rw [if_neg (by omega), if_neg f5]
      show _ = ((takesB (fm n) r.p && (isNm r.l && decide (r.a = 0))) && decide (r.m = 0))
      rw [← e]
      generalize decide (r.m = 0) = a1
      generalize isNm r.l = a2
      generalize decide (r.a = 0) = a3
      generalize takesB (fm n) r.p = a4
      revert a1 a2 a3 a4
      decide
theorem and3 (b1 b2 b3 : Bool) : b1 = false ∨ (b1 = true ∧ b2 = false) ∨ (b1 = true ∧ b2 = true ∧ b3 = false) ∨ (b1 = true ∧ b2 = true ∧ b3 = true) := by revert b1 b2 b3; decide
theorem code_may (w : World) (r : Ri) (T : Hid (Tabs w)) : Calls Tryd.prog 47 #[.agg (i6 r)] w fun e w' => e = .returned (.bool (codeM r)) ∧ Below w.heap.size w w' := by
  have hB : Hid (Fm w [(w.heap.size, i6 r, 40)] (w.alloc (.cells (i6 r) 40))) := Fm.one w _ _
  have fin : Hid (codeM r = codeM r) := (rfl : codeM r = codeM r)
  obtain ⟨R, hR⟩ : ∃ R, Hid (codeM r = R) := ⟨_, (rfl : codeM r = codeM r)⟩
  rw [hR.out]
  clear fin
  by_cases hp : r.p = 0
  · have p0 : (r.p == 0) = true := by rw [beq_iff_eq]; exact hp
    have hE := fun v T => enc_any r.n r.a v T
    have e0 : (encE r.n r.a == 0) = decide (encE r.n r.a = 0) := by rw [Bool.eq_iff_iff]; simp
    have q3 := emp_is r.l
    have fin : Hid (R = (decide (encE r.n r.a = 0) && decide (r.l.size = 0))) := by
      show _ = _
      rw [← hR.out]
      unfold codeM
      rw [if_pos hp]
    generalize decide (encE r.n r.a = 0) = b1 at e0 fin
    generalize decide (r.l.size = 0) = b2 at q3 fin
    generalize encE r.n r.a = E at hE e0
    clear hp hR
    cases b1
    all_goals
      go_enter Tryd.func47, Tryd.ntmps47
      go_wp2_with (first
        | ((with_reducible refine gen_world (w.alloc (.cells (i6 r) 40)) (Fm w [(w.heap.size, i6 r, 40)]) hB.out ?_); intro y K1; have d0 := (K1.out.bx 0 _ _ _ rfl).c 0 (.int .u8 r.k) rfl; have d1 := (K1.out.bx 0 _ _ _ rfl).c 1 (.string r.n) rfl; have d2 := (K1.out.bx 0 _ _ _ rfl).c 2 (.int .i64 r.a) rfl; have d3 := (K1.out.bx 0 _ _ _ rfl).c 3 (.string r.l) rfl; have d4 := (K1.out.bx 0 _ _ _ rfl).c 4 (.int .u8 r.p) rfl; have d5 := (K1.out.bx 0 _ _ _ rfl).c 5 (.slice r.sp r.m r.cap) rfl)
        | (go_at_call 31; refine (hE y (T.out.below K1.out.low)).mono ?_; rintro e y2 ⟨X, rfl, h2⟩; have K2 : Hid (Fm w [(w.heap.size, i6 r, 40)] y2) := K1.out.below h2; clear d0 d1 d2 d3 d4 d5 h2; have g3 := (K2.out.bx 0 _ _ _ rfl).c 3 (.string r.l) rfl))
      go_ret
      exact ⟨bool_ret (by rw [fin.out]; rfl), K2.out.low⟩
  · have p0 : (r.p == 0) = false := by rw [beq_eq_false_iff_ne]; exact hp
    rcases ho : opOf r.n with _ | n
    · have fin : Hid (R = false) := by
        show _ = _
        rw [← hR.out]
        unfold codeM
        rw [if_neg hp, ho]
      have hF := fun v T => find_none r.n ho v T
      clear hp hR ho
      unfold info0 at hF
      go_enter Tryd.func47, Tryd.ntmps47
      go_wp2_with (first
        | ((with_reducible refine gen_world (w.alloc (.cells (i6 r) 40)) (Fm w [(w.heap.size, i6 r, 40)]) hB.out ?_); intro y K1; have d1 := (K1.out.bx 0 _ _ _ rfl).c 1 (.string r.n) rfl; have d4 := (K1.out.bx 0 _ _ _ rfl).c 4 (.int .u8 r.p) rfl)
        | (go_at_call 30; refine (hF y (T.out.below K1.out.low)).mono ?_; rintro e y2 ⟨rfl, h2⟩; have K2 : Hid (Fm w [(w.heap.size, i6 r, 40), (y2.heap.size, #[.string ⟨#[]⟩, .int .u8 0, .int .i64 0, .int .i64 0], 82)] (y2.alloc (.cells #[.string ⟨#[]⟩, .int .u8 0, .int .i64 0, .int .i64 0] 82))) := (K1.out.below h2).new _ _; clear d1 d4 h2))
      go_ret
      exact ⟨bool_ret fin.out.symm, K2.out.low⟩
    · have fin : Hid (R = (takesB (fm n) r.p && (isNm r.l && decide (r.a = 0)))) := by
        show _ = _
        rw [← hR.out]
        unfold codeM
        rw [if_neg hp, ho]
      have hF := fun v T => find_some r.n n ho (nm n) (fm n) (lay (fm n * 3)) (cyc n) rfl rfl rfl rfl v T
      have hT := fun v => takes_any (fm n) r.p v
      have hN := fun v => pisname_any r.l v
      have e2 : (r.a == 0) = decide (r.a = 0) := by rw [Bool.eq_iff_iff]; simp
      generalize takesB (fm n) r.p = b1 at hT fin
      generalize isNm r.l = b2 at hN fin
      generalize decide (r.a = 0) = b3 at e2 fin
      generalize ((fm n : Nat) : Int) = f at hT hF
      generalize ((lay (fm n * 3) : Nat) : Int) = L at hF
      generalize ((cyc n : Nat) : Int) = c at hF
      generalize nm n = X at hF
      clear hp hR ho
      rcases and3 b1 b2 b3 with rfl | ⟨rfl, rfl⟩ | ⟨rfl, rfl, rfl⟩ | ⟨rfl, rfl, rfl⟩
      all_goals
        go_enter Tryd.func47, Tryd.ntmps47
        go_wp2_with (first
        | ((with_reducible refine gen_world (w.alloc (.cells (i6 r) 40)) (Fm w [(w.heap.size, i6 r, 40)]) hB.out ?_); intro y K1; have d1 := (K1.out.bx 0 _ _ _ rfl).c 1 (.string r.n) rfl; have d4 := (K1.out.bx 0 _ _ _ rfl).c 4 (.int .u8 r.p) rfl)
          | (go_at_call 30; refine (hF y (T.out.below K1.out.low)).mono ?_; rintro e y2 ⟨rfl, h2⟩; have K2 : Hid (Fm w [(w.heap.size, i6 r, 40), (y2.heap.size, #[.string X, .int .u8 f, .int .i64 L, .int .i64 c], 82)] (y2.alloc (.cells #[.string X, .int .u8 f, .int .i64 L, .int .i64 c] 82))) := (K1.out.below h2).new _ _; clear d1 d4 h2; have g2 := (K2.out.bx 0 _ _ _ rfl).c 2 (.int .i64 r.a) rfl; have g3 := (K2.out.bx 0 _ _ _ rfl).c 3 (.string r.l) rfl; have g4 := (K2.out.bx 0 _ _ _ rfl).c 4 (.int .u8 r.p) rfl; have q1 := (K2.out.bx 1 _ _ _ rfl).c 1 (.int .u8 f) rfl)
          | (go_at_call 60; refine (hT _).mono ?_; rintro e y4 ⟨rfl, rfl⟩)
          | (go_at_call 46; refine (hN _).mono ?_; rintro e y5 ⟨rfl, rfl⟩))
        go_ret
        exact ⟨bool_ret (by rw [fin.out]; rfl), K2.out.low⟩
end Go.Proofs.YthbdpceobnkflaaDoor
