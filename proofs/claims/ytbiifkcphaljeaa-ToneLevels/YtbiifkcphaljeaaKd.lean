/- Rows of records in memory: where they lie, whose they are, an append of one, a store into one, a copy. -/
import Derived.Test.YtbiifkcphaljeaaGn
import Derived.Test.YtbiifkcphaljeaaKc
import Derived.ArgAppend
import Derived.Laws.IdiomCopy
import Derived.Laws.CopyOwn
import Derived.Laws.MakeOwn
import Derived.Laws.OwnMore
namespace Go.Proofs.Ytbiifkcphaljeaa
open Go Go.RowKit
set_option linter.unusedVariables false
set_option maxHeartbeats 400000
set_option maxRecDepth 20000

def zR : Rc := ⟨0, 0, 0, false, false, 0, false, 0⟩
def rcC (r : Rc) : Array Value := #[.int .u8 r.co, .int .u16 r.ad, .int .u8 r.da, .bool r.re, .bool r.wr, .int .u8 r.po, .bool r.q, .int .u8 r.mo]
theorem rcC_size (r : Rc) : (rcC r).size = 8 := rfl
theorem rcC_one (r : Rc) : (rcC r).all (·.oneCell') = true := by simp [rcC, Value.oneCell']
theorem rcC_co (r : Rc) : (rcC r)[0]? = some (.int .u8 r.co) := rfl
theorem rcC_ad (r : Rc) : (rcC r)[1]? = some (.int .u16 r.ad) := rfl
theorem rcC_da (r : Rc) : (rcC r)[2]? = some (.int .u8 r.da) := rfl
theorem rcC_re (r : Rc) : (rcC r)[3]? = some (.bool r.re) := rfl
theorem rcC_wr (r : Rc) : (rcC r)[4]? = some (.bool r.wr) := rfl
theorem rcC_po (r : Rc) : (rcC r)[5]? = some (.int .u8 r.po) := rfl
theorem rcC_q (r : Rc) : (rcC r)[6]? = some (.bool r.q) := rfl
theorem rcC_mo (r : Rc) : (rcC r)[7]? = some (.int .u8 r.mo) := rfl
theorem rtR : Rt Try.prog 41 8 := ⟨⟨_, Try.underlying41, rfl⟩, by kernel_rfl⟩
/-- Spans that lie in a row. -/
def LiesR (x : World) (sp : Option Addr) (l : List Rc) : Prop := ∀ j s, l[j]? = some s → ∃ gb ob, sp = some ⟨gb, ob, none⟩ ∧ x.rangeAt gb (ob + j * 8) (rcC s).toList
theorem LiesR.below {x y : World} {sp : Option Addr} {l : List Rc} (h : LiesR x sp l) (hb : Below x.heap.size x y) : LiesR y sp l := fun j s hj => by
  obtain ⟨gb, ob, e, c⟩ := h j s hj
  exact ⟨gb, ob, e, range_keep c hb⟩
theorem LiesR.low {x y : World} {B : Nat} {sp : Option Addr} {l : List Rc} (h : LiesR x sp l) (hs : ∀ a, sp = some a → 0 < l.length → a.block < B) (hb : Below B x y) : LiesR y sp l := fun j s hj => by
  obtain ⟨gb, ob, e, c⟩ := h j s hj
  refine ⟨gb, ob, e, fun i v hi => ?_⟩
  exact (hb.cell (p := ⟨gb, ob + j * 8 + i, none⟩) (show gb < B from hs ⟨gb, ob, none⟩ e (by have := (List.getElem?_eq_some_iff.1 hj).1; omega))).trans (c i v hi)
theorem rangeC {x : World} {g o : Nat} {s : Rc} (h : x.rangeAt g o (rcC s).toList) (i : Nat) (v : Value) (hv : (rcC s)[i]? = some v) : x.cell? ⟨g, o + i, none⟩ = some v := h i v (by rw [Array.getElem?_toList]; exact hv)
theorem at_list {α : Type} {l : List α} {j n : Nat} (hn : l.length = n) (h : j < n) : ∃ v, l[j]? = some v ∧ l.drop j = v :: l.drop (j + 1) := by
  have hl : j < l.length := by omega
  exact ⟨l[j], List.getElem?_eq_getElem hl, List.drop_eq_getElem_cons hl⟩
theorem infoR : (Try.prog.info? 41).map (fun i => (i.zero, i.size, i.bytes)) = some (some (.agg (rcC zR)), 8, 10) := by kernel_rfl
/-- The cells of a row of spans. -/
def rowR : List Rc → List Value
  | [] => []
  | s :: l => (rcC s).toList ++ rowR l
theorem rowR_len (l : List Rc) : (rowR l).length = l.length * 8 := by
  induction l with
  | nil => rfl
  | cons s l ih => simp only [rowR, List.length_append, ih, List.length_cons, Array.length_toList, rcC_size]; omega
theorem rowR_app (l r : List Rc) : rowR (l ++ r) = rowR l ++ rowR r := by
  induction l with
  | nil => rfl
  | cons s l ih => simp only [List.cons_append, rowR, ih, List.append_assoc]
theorem rowR_at (l : List Rc) : ∀ (j i : Nat) (s : Rc), l[j]? = some s → i < 8 → (rowR l)[j * 8 + i]? = (rcC s)[i]? := by
  induction l with
  | nil => intro j i s h; simp at h
  | cons t l ih =>
    intro j i s h hi
    cases j with
    | zero =>
      simp at h
      subst h
      simp only [rowR, Nat.zero_mul, Nat.zero_add]
      rw [List.getElem?_append_left (by simpa [rcC_size] using hi), Array.getElem?_toList]
    | succ j =>
      simp only [List.getElem?_cons_succ] at h
      simp only [rowR]
      rw [List.getElem?_append_right (by rw [Array.length_toList, rcC_size]; omega), Array.length_toList, rcC_size, show (j + 1) * 8 + i - 8 = j * 8 + i by omega]
      exact ih j i s h hi
theorem rowR_one (l : List Rc) : ∀ v ∈ rowR l, v.oneCell' = true := by
  induction l with
  | nil => intro v hv; simp [rowR] at hv
  | cons s l ih =>
    intro v hv
    simp only [rowR, List.mem_append] at hv
    rcases hv with h | h
    · simp [rcC] at h
      rcases h with h | h | h | h | h | h | h | h <;> subst h <;> rfl
    · exact ih v h
def OwnR (B : Nat) (w : World) (v : Value) (l : List Rc) : Prop := w.ownsRow B 41 8 v l.length (rowR l)
theorem OwnR.nil (B : Nat) (w : World) : OwnR B w (.slice none 0 0) [] := World.ownsRow_nil w B _ 8
theorem OwnR.alloc {B : Nat} {w : World} {v : Value} {l : List Rc} (h : OwnR B w v l) (o : Obj) : OwnR B (w.alloc o) v l := World.ownsRow.alloc h o
theorem OwnR.below {B : Nat} {x y : World} {v : Value} {l : List Rc} (h : OwnR B x v l) (hb : Below x.heap.size x y) : OwnR B y v l := by
  refine ⟨h.1, ?_⟩
  rcases h.2 with h0 | ⟨g, cap, cur, hv, hB, hg, hr⟩
  · exact .inl h0
  · exact .inr ⟨g, cap, cur, hv, hB, (hb.block g (heap_lt hg)).trans hg, hr⟩
theorem OwnR.weak {w : World} {B B' : Nat} {v : Value} {l : List Rc} (h : OwnR B w v l) (hB : B' ≤ B) : OwnR B' w v l := by
  refine ⟨h.1, ?_⟩
  rcases h.2 with hn | ⟨g, cap, cur, h1, h2, h3⟩
  · exact .inl hn
  · exact .inr ⟨g, cap, cur, h1, Nat.le_trans hB h2, h3⟩
theorem OwnR.open {B : Nat} {w : World} {v : Value} {l : List Rc} (h : OwnR B w v l) : ∃ sp cap, v = .slice sp l.length cap ∧ LiesR w sp l ∧ (∀ a, sp = some a → a.off = 0 ∧ a.spot = none ∧ B ≤ a.block ∧ a.block < w.heap.size) ∧ (∀ g, v.ownBlock = some g ↔ sp = some ⟨g, 0, none⟩) := by
  have h0 := h
  obtain ⟨h1, h2⟩ := h
  rcases h2 with ⟨rfl, hn⟩ | ⟨g, cap, cur, rfl, hb, hg, _⟩
  · refine ⟨none, 0, by rw [hn], fun j s hj => ?_, (fun a h => by cases h), (fun g => by simp [Value.ownBlock])⟩
    have := (List.getElem?_eq_some_iff.1 hj).1
    omega
  · refine ⟨some ⟨g, 0, none⟩, cap, rfl, fun j s hj => ⟨g, 0, rfl, fun i v hv => ?_⟩, (fun a h => by cases h; exact ⟨rfl, rfl, hb, heap_lt hg⟩), (fun g => by simp [Value.ownBlock])⟩
    have hi : i < 8 := by have := (List.getElem?_eq_some_iff.1 hv).1; simpa [rcC_size] using this
    rw [Array.getElem?_toList] at hv
    have := World.ownsRow.cells (g := g) h0 rfl (j * 8 + i) v (by rw [rowR_at l j i s hj hi]; exact hv)
    rw [Addr.add_lit] at this
    rw [Nat.add_assoc]
    exact this
/-- Old memory stays, but for the cells of F. -/
structure Cu (B : Nat) (F : Nat → Nat → Prop) (w w' : World) : Prop where
  low : Below B w w'
  cell : ∀ g j, g < w.heap.size → ¬ F g j → w'.cell? ⟨g, j, none⟩ = w.cell? ⟨g, j, none⟩
  blk : ∀ g, g < w.heap.size → (∀ j, ¬ F g j) → w'.heap[g]? = w.heap[g]?
theorem Cu.refl (B : Nat) (F : Nat → Nat → Prop) (w : World) : Cu B F w w := ⟨Below.refl _ _, fun _ _ _ _ => rfl, fun _ _ _ => rfl⟩
theorem Cu.trans {B : Nat} {F : Nat → Nat → Prop} {a b c : World} (h : Cu B F a b) (k : Cu B F b c) : Cu B F a c :=
  ⟨h.low.trans k.low, fun g j hg hF => (k.cell g j (Nat.lt_of_lt_of_le hg h.low.size) hF).trans (h.cell g j hg hF),
    fun g hg hF => (k.blk g (Nat.lt_of_lt_of_le hg h.low.size) hF).trans (h.blk g hg hF)⟩
theorem Cu.mono {B : Nat} {F G : Nat → Nat → Prop} {a b : World} (h : Cu B F a b) (k : ∀ g j, g < a.heap.size → F g j → G g j) : Cu B G a b := ⟨h.low, fun g j hg hG => h.cell g j hg fun hF => hG (k g j hg hF), fun g hg hG => h.blk g hg fun j hF => hG j (k g j hg hF)⟩
theorem Cu.of_below {B : Nat} {F : Nat → Nat → Prop} {a b : World} (h : Below a.heap.size a b) (hB : B ≤ a.heap.size) : Cu B F a b :=
  ⟨h.mono hB, fun g j hg _ => World.cell?_of_block (w := a) (a := ⟨g, j, none⟩) (h.block g hg), fun g hg _ => h.block g hg⟩
theorem splice_at {α : Type} (L : List α) (off : Nat) (cs : List α) (h : off + cs.length ≤ L.length) (k : Nat) : (splice L off cs)[k]? = if off ≤ k ∧ k < off + cs.length then cs[k - off]? else L[k]? := by
  unfold splice
  by_cases h1 : k < off
  · rw [List.getElem?_append_left (by simp; omega), List.getElem?_take, if_pos h1, if_neg (by omega)]
  · rw [List.getElem?_append_right (by simp; omega)]
    have e : k - (L.take off).length = k - off := by simp; omega
    rw [e]
    by_cases h2 : k < off + cs.length
    · rw [List.getElem?_append_left (by omega), if_pos (by omega)]
    · rw [List.getElem?_append_right (by omega), List.getElem?_drop, if_neg (by omega)]
      congr 1
      omega
theorem heap_setCells (b : Nat) (t : TypeId) : ∀ (vs : List Value) (o : Nat) (w : World) (cur : Array Value), w.heap[b]? = some (.cells cur t (0, 0)) → o + vs.length ≤ cur.size → (w.setCells b o vs).heap[b]? = some (.cells (splice cur.toList o vs).toArray t (0, 0)) := by
  intro vs
  induction vs with
  | nil =>
    intro o w cur h hf
    show w.heap[b]? = _
    rw [h]
    have e : splice cur.toList o [] = cur.toList := by simp [splice]
    rw [e]
  | cons v r ih =>
    intro o w cur h hf
    simp only [List.length_cons] at hf
    have := ih (o + 1) (w.setCell ⟨b, o, none⟩ v) (cur.setIfInBounds o v) (heap_setCell_same w b o cur t v h) (by simp; omega)
    show ((w.setCell ⟨b, o, none⟩ v).setCells b (o + 1) r).heap[b]? = _
    rw [this]
    congr 3
    apply List.ext_getElem?
    intro k
    rw [splice_at _ _ _ (by simp; omega), splice_at _ _ _ (by simp; omega), Array.toList_setIfInBounds]
    simp only [List.length_cons]
    by_cases h1 : k = o
    · subst h1
      rw [if_neg (by omega), if_pos (by omega), Nat.sub_self, List.getElem?_set_self (by simp; omega)]
      rfl
    · by_cases h2 : o + 1 ≤ k ∧ k < o + 1 + r.length
      · rw [if_pos h2, if_pos (by omega), show k - o = (k - (o + 1)) + 1 by omega, List.getElem?_cons_succ]
      · rw [if_neg h2, if_neg (by omega), List.getElem?_set_ne (fun h => h1 h.symm)]
theorem setCells_other (b q : Nat) (hq : q ≠ b) : ∀ (vs : List Value) (o : Nat) (w : World), (w.setCells b o vs).heap[q]? = w.heap[q]? := by
  intro vs
  induction vs with
  | nil => intro o w; rfl
  | cons v r ih => intro o w; exact (ih (o + 1) _).trans (heap_setCell_other w ⟨b, o, none⟩ q v hq)
theorem setCells_below (B b : Nat) (hB : B ≤ b) : ∀ (vs : List Value) (o : Nat) (w : World), Below B w (w.setCells b o vs) := by
  intro vs
  induction vs with
  | nil => intro o w; exact Below.refl _ _
  | cons v r ih => intro o w; exact ((Below.refl B w).setCell (p := ⟨b, o, none⟩) hB v).trans (ih (o + 1) _)
theorem setCells_cu (B b o : Nat) (hB : B ≤ b) (vs : List Value) (w : World) : Cu B (fun g j => g = b ∧ o ≤ j ∧ j < o + vs.length) w (w.setCells b o vs) :=
  ⟨setCells_below B b hB vs o w, fun g j _ hF => World.cell?_setCells_out b vs o w ⟨g, j, none⟩ (fun hb _ => by
    rcases Nat.lt_or_ge j o with h | h
    · exact .inl h
    · right
      rcases Nat.lt_or_ge j (o + vs.length) with h2 | h2
      · exact absurd ⟨hb, h, h2⟩ hF
      · exact h2), fun g _ hF => by
    by_cases hg : g = b
    · subst hg
      cases vs with
      | nil => rfl
      | cons v r => exact absurd ⟨rfl, Nat.le_refl _, by simp⟩ (hF o)
    · exact setCells_other b g hg vs o w⟩
/-- What an append of one span leaves. -/
structure App1 (B : Nat) (v : Value) (l : List Rc) (s : Rc) (v' : Value) (w w' : World) : Prop where
  own : OwnR B w' v' (l ++ [s])
  new : ∀ g, v'.ownBlock = some g → v.ownBlock = some g ∨ w.heap.size ≤ g
  cu : Cu B (fun g j => v.ownBlock = some g ∧ l.length * 8 ≤ j) w w'
theorem App1.grew {B : Nat} {v : Value} {l : List Rc} {s : Rc} {v' : Value} {w w' : World} (hB : B ≤ w.heap.size) (h1 : w'.ownsRow w.heap.size 41 8 v' (l.length + 1) (rowR l ++ (rcC s).toList)) (h2 : w.grownBy w' none) : App1 B v l s v' w w' := by
  have ho : OwnR w.heap.size w' v' (l ++ [s]) := by
    unfold OwnR
    rw [rowR_app, List.length_append]
    simpa [rowR] using h1
  exact ⟨ho.weak hB, fun g hg => .inr (h1.lt g hg).1, Cu.of_below ⟨h2.os, h2.tape, h2.output, h2.size, fun k hk => h2.block k hk (by simp)⟩ hB⟩
theorem at_app {ops : Array Oper} {rest : List Oper} {o : Oper} {a : Act} {w : World} {Q : Exit → Act → World → Prop} (hgd : o.guard = none) (s x : Operand)
    (ho : o.op = .call { callee := .builtin .append, args := #[s, x], argTypes := #[22, 22] }) (B : Nat) (v : Value) (l : List Rc) (hs : a.eval s = v) (hown : OwnR B w v l)
    (g0 : Nat) (u : Rc) (hx : a.eval x = .slice (some ⟨g0, 0, none⟩) 1 1) (hu : Bx w g0 (rcC u) 41) (hn : l.length ≤ 1000000000) (hB : B ≤ w.heap.size)
    (k : ∀ v' w', Hid (App1 B v l u v' w w') → wpList Try.prog ops Q rest (a.put o.dst v') w') : wpList Try.prog ops Q (o :: rest) a w := by
  obtain ⟨i, hi, hz0, hz1, hz2⟩ := info_parts infoR
  have hc : ∀ j u', (rcC u).toList[j]? = some u' → w.cell? ((⟨g0, 0, none⟩ : Addr).add j) = some u' := fun j u' h => by
    rw [Addr.add_lit, Nat.zero_add]
    exact hu.c j u' (by rw [← Array.getElem?_toList]; exact h)
  have hnews : ∀ y ∈ (rcC u).toList, y.oneCell' = true := fun y hy => rowR_one [u] y (by simp only [rowR, List.append_nil]; exact hy)
  have b1 : l.length + 1 ≤ maxLen := by unfold maxLen; omega
  have b2 : (l.length + 1) * 10 ≤ 140737488355328 := by omega
  have hul : (rcC u).toList.length = 1 * 8 := by rw [Array.length_toList, rcC_size]
  have hown' := hown
  obtain ⟨hl, hor⟩ := hown
  rcases hor with ⟨rfl, hn0⟩ | ⟨g, cap, cur, rfl, hbg, hg, hnc, hcm, hcs, htake⟩
  · have hl0 : l = [] := List.eq_nil_of_length_eq_zero hn0
    subst hl0
    refine wpList_append_grows w hgd s x 22 ho 41 i _ 8 10 Try.underlying22 hi hz0 hz1 hz2 rfl (by decide) none 0 0 [] hs (fun _ => ⟨rfl, rfl⟩) rfl (fun b hb => by cases hb) ⟨g0, 0, none⟩ 1 1 (rcC u).toList hx hul hc hnews (by decide) b1 b2 ?_
    intro v' w' r1 r2
    exact k v' w' (App1.grew hB r1 r2)
  · by_cases hr : l.length + 1 ≤ cap
    · have hfit : l.length * 8 + 8 ≤ cur.size := by rw [hcs]; omega
      refine wpList_append_arg w hgd s x 22 ho 41 i _ 8 10 Try.underlying22 hi hz0 hz1 hz2 rfl (by decide) g 0 l.length cap (rowR l) hs hl ?_ ⟨g0, 0, none⟩ 1 1 (rcC u).toList hx hul hc hnews ?_ b1 b2 ?_ (fun h => absurd hr (by omega))
      · intro j u' hj
        have := World.ownsRow.cells (g := g) hown' rfl j u' hj
        rwa [Addr.add_lit] at this
      · intro _ j hj
        rw [hul] at hj
        refine ⟨?_, frozen_heap hg _⟩
        rw [cell_heap hg, Array.getElem?_eq_getElem (by omega)]
        rfl
      · intro _
        refine k _ _ ?_
        have e0 : 0 + l.length * 8 = l.length * 8 := by omega
        rw [e0]
        refine ⟨⟨by rw [rowR_app, List.length_append, List.length_append, rowR_len, rowR_len]; simp; omega, .inr ⟨g, cap, _, by rw [List.length_append]; rfl, hbg, heap_setCells g _ _ _ w cur hg (by rw [hul]; omega), by rw [List.length_append]; exact hr, hcm, ?_, ?_⟩⟩, fun g' h => .inl h, ?_⟩
        · have := length_splice cur.toList (l.length * 8) (rcC u).toList (by rw [hul, Array.length_toList]; omega)
          simpa [hcs] using this
        · rw [rowR_app, List.length_append]
          simp only [rowR, List.append_nil, List.length_cons, List.length_nil]
          unfold splice
          rw [← List.append_assoc, htake, List.take_append_of_le_length (by rw [List.length_append, rowR_len, hul]; omega)]
          exact List.take_of_length_le (by rw [List.length_append, rowR_len, hul]; omega)
        · exact (setCells_cu B g _ hbg _ w).mono fun g' j _ hF => ⟨by rw [hF.1]; rfl, hF.2.1⟩
    · have hcells := World.ownsRow.cells (g := g) hown' rfl
      refine wpList_append_grows w hgd s x 22 ho 41 i _ 8 10 Try.underlying22 hi hz0 hz1 hz2 rfl (by decide) (some ⟨g, 0, none⟩) l.length cap (rowR l) hs (fun h => by cases h) hl (fun b hb => by cases hb; exact hcells) ⟨g0, 0, none⟩ 1 1 (rcC u).toList hx hul hc hnews (by omega) b1 b2 ?_
      intro v' w' r1 r2
      exact k v' w' (App1.grew hB r1 r2)
theorem sizeR : (Try.prog.info? 41).map (·.size) = some 8 := by kernel_rfl
theorem builtR (x : Int) : Try.prog.built 41 [(0, .int .u8 x)] = some (rcC { zR with co := x }) := by kernel_rfl
theorem built0 : Try.prog.built 41 [] = some (rcC zR) := by kernel_rfl
theorem zeroV_R (w : World) : (zeroValue 41).run Try.prog w = .ok (.agg (rcC zR)) w := by kernel_rfl
theorem eqR (x y : Rc) : Eqs Try.prog 41 (rcC x) (rcC y) (rcB x y) := ⟨by kernel_rfl, fun w => by
  unfold rcC
  go_simp
  unfold rcB
  (repeat' split) <;> simp_all⟩
theorem one_bx (z : World) (cs : Array Value) (t : TypeId) : Bx (z.alloc (.cells cs t)) z.heap.size cs t := alloc_last' z _
theorem bx_range {y : World} {g : Nat} {r : List Rc} (h : Bx y g (rowR r).toArray 41) (j : Nat) (s : Rc) (hj : r[j]? = some s) : y.rangeAt g (0 + j * 8) (rcC s).toList := fun i v hv => by
  have hi : i < 8 := by have := (List.getElem?_eq_some_iff.1 hv).1; simpa [rcC_size] using this
  rw [Array.getElem?_toList] at hv
  rw [cell_heap h, List.getElem?_toArray, Nat.zero_add, rowR_at r j i s hj hi]
  exact hv
theorem rowR_set (x : List Rc) : ∀ (k : Nat) (s : Rc), k < x.length → rowR (x.set k s) = splice (rowR x) (k * 8) (rcC s).toList := by
  induction x with
  | nil => intro k s h; simp at h
  | cons t x ih =>
    intro k s h
    cases k with
    | zero =>
      simp only [List.set_cons_zero, rowR, splice, Nat.zero_mul, List.take_zero, List.nil_append, Nat.zero_add]
      rw [show (rcC s).toList.length = (rcC t).toList.length from rfl, List.drop_left]
    | succ k =>
      simp only [List.length_cons] at h
      simp only [List.set_cons_succ, rowR]
      rw [ih k s (by omega)]
      unfold splice
      have e : (rcC t).toList.length = 8 := rfl
      rw [show (k + 1) * 8 = (rcC t).toList.length + k * 8 by rw [e]; omega, List.take_length_add_append, List.append_assoc, Nat.add_assoc, List.drop_length_add_append]
theorem take_splice (L : List Value) (off m : Nat) (cs : List Value) (h : off + cs.length ≤ m) (hm : m ≤ L.length) : (splice L off cs).take m = splice (L.take m) off cs := by
  apply List.ext_getElem?
  intro k
  rw [List.getElem?_take, splice_at L off cs (by omega), splice_at (L.take m) off cs (by rw [List.length_take]; omega), List.getElem?_take]
  by_cases h1 : k < m
  · rw [if_pos h1, if_pos h1]
  · rw [if_neg h1, if_neg h1, if_neg (by omega)]
theorem OwnR.set {B : Nat} {w : World} {g n cap : Nat} {x : List Rc} (h : OwnR B w (.slice (some ⟨g, 0, none⟩) n cap) x) (k : Nat) (hk : k < x.length) (s : Rc) : OwnR B (w.setCells g (k * 8) (rcC s).toList) (.slice (some ⟨g, 0, none⟩) n cap) (x.set k s) ∧ w.there g (k * 8) (rcC s).size ∧ B ≤ g := by
  obtain ⟨h1, h2⟩ := h
  rcases h2 with ⟨h0, _⟩ | ⟨g', cap', cur, hv, hb, hg, hn, hm, hs, ht⟩
  · simp at h0
  · simp at hv
    obtain ⟨rfl, hn', rfl⟩ := hv
    have hl : (rcC s).toList.length = 8 := rfl
    have hcl : cur.toList.length = cap * 8 := by rw [Array.length_toList]; exact hs
    refine ⟨⟨by rw [rowR_len], .inr ⟨g, cap, _, by rw [List.length_set, hn'], hb, heap_setCells g _ _ _ w cur hg (by rw [hl, hs]; omega), by rw [List.length_set]; exact hn, hm, ?_, ?_⟩⟩, fun j hj => ?_, hb⟩
    · have := length_splice cur.toList (k * 8) (rcC s).toList (by rw [hl, hcl]; omega)
      rw [List.size_toArray, this, hcl]
    · rw [List.length_set, rowR_set x k s hk, ← ht]
      exact take_splice cur.toList (k * 8) (x.length * 8) _ (by rw [hl]; omega) (by rw [hcl]; omega)
    · rw [rcC_size] at hj
      refine ⟨?_, frozen_heap hg _⟩
      rw [cell_heap hg, Array.getElem?_eq_getElem (by rw [hs]; omega)]
      rfl
theorem run_copy0 (w : World) (ty : TypeId) (d a : Option Addr) (dLen dCap sCap : Nat) :
    (Builtin.copy_ #[22, 22] ty #[.slice d dLen dCap, .slice a 0 sCap]).run Try.prog w = .ok (goInt 0) w := by
  obtain ⟨i, hi, hz0, hz1, hz2⟩ := info_parts infoR
  have hl : ∀ (x : Addr), (loadCells x 0).run Try.prog w = .ok #[] w := fun x => by simpa using run_loadCells_list (P := Try.prog) w x [] (by simp)
  cases d <;> cases a <;> simp [Builtin.copy_, run_underlying Try.underlying22, Builtin.lenOf, Builtin.firstCells, sizeOf, typeInfo, hi, storeCells, hl]
theorem run_copyR (w : World) (ty : TypeId) (g dLen dCap : Nat) (ad : Addr) (sLen sCap : Nat) (cur : Array Value) (cs : List Value)
    (hg : w.heap[g]? = some (.cells cur 41 (0, 0))) (hn : cs.length = sLen * 8) (hle : sLen ≤ dLen)
    (hsrc : ∀ j v, cs[j]? = some v → w.cell? (ad.add j) = some v) (hfit : cs.length ≤ cur.size) (h1 : ∀ v ∈ cs, v.oneCell' = true) :
    (Builtin.copy_ #[22, 22] ty #[.slice (some ⟨g, 0, none⟩) dLen dCap, .slice (some ad) sLen sCap]).run Try.prog w = .ok (goInt sLen) (w.setRow g (splice cur.toList 0 cs).toArray) := by
  obtain ⟨i, hi, hz0, hz1, hz2⟩ := info_parts infoR
  have hl := run_loadCells_list (P := Try.prog) w ad cs hsrc
  have hst := run_storeCells_at Try.prog g 0 41 cs 0 cur w hg (by simpa using hfit) h1
  rw [hn] at hl
  have hm : Nat.min sLen dLen = sLen := Nat.min_eq_left hle
  simp [Builtin.copy_, run_underlying Try.underlying22, Builtin.lenOf, Builtin.firstCells, sizeOf, typeInfo, hi, hz1, hm, hl, hst, splice]
theorem at_copyR {ops : Array Oper} {rest : List Oper} {o : Oper} {a : Act} {w : World} {Q : Exit → Act → World → Prop} (hgd : o.guard = none) (d s : Operand)
    (ho : o.op = .call { callee := .builtin .copy, args := #[d, s], argTypes := #[22, 22] })
    (g dLen dCap : Nat) (sp : Option Addr) (sLen sCap : Nat) (hd : a.eval d = .slice (some ⟨g, 0, none⟩) dLen dCap) (hs : a.eval s = .slice sp sLen sCap)
    (cur : Array Value) (hg : w.heap[g]? = some (.cells cur 41 (0, 0))) (l : List Rc) (hlen : l.length = sLen) (hle : sLen ≤ dLen) (hl : LiesR w sp l) (hfit : sLen * 8 ≤ cur.size)
    (B : Nat) (hBg : B ≤ g) (h : ∀ w', Hid (w'.heap[g]? = some (.cells (splice cur.toList 0 (rowR l)).toArray 41 (0, 0)) ∧ Below B w w') → wpList Try.prog ops Q rest (a.put o.dst (goInt sLen)) w') : wpList Try.prog ops Q (o :: rest) a w := by
  refine wpList_plain hgd fun K hK => ?_
  by_cases h0 : sLen = 0
  · subst h0
    have hl0 : l = [] := List.eq_nil_of_length_eq_zero hlen
    subst hl0
    have hrun := run_copy0 w o.type (some ⟨g, 0, none⟩) sp dLen dCap sCap
    unfold Oper.wp
    simp [execOp, ho, resolve, invoke, builtin, hd, hs, hrun, Result.andThen]
    refine hK _ _ (h w ⟨?_, Below.refl _ _⟩)
    have e : splice cur.toList 0 (rowR []) = cur.toList := by simp [splice, rowR]
    rw [e]
    exact hg
  · obtain ⟨gb, ob, rfl, _⟩ := hl 0 _ (List.getElem?_eq_getElem (by omega))
    have hsrc : ∀ j v, (rowR l)[j]? = some v → w.cell? ((⟨gb, ob, none⟩ : Addr).add j) = some v := fun j v hv => by
      have hj := (List.getElem?_eq_some_iff.1 hv).1
      rw [rowR_len] at hj
      obtain ⟨gb', ob', e, hr⟩ := hl (j / 8) _ (List.getElem?_eq_getElem (by omega))
      cases e
      rw [Addr.add_lit]
      have e1 : (rowR l)[j / 8 * 8 + j % 8]? = some v := by rw [show j / 8 * 8 + j % 8 = j by omega]; exact hv
      rw [rowR_at l (j / 8) (j % 8) _ (List.getElem?_eq_getElem (by omega)) (by omega)] at e1
      have := rangeC hr (j % 8) v e1
      rw [show ob + j / 8 * 8 + j % 8 = ob + j by omega] at this
      exact this
    have hrun := run_copyR w o.type g dLen dCap ⟨gb, ob, none⟩ sLen sCap cur (rowR l) hg (by rw [rowR_len, hlen]) hle hsrc (by rw [rowR_len, hlen]; exact hfit) (rowR_one l)
    unfold Oper.wp
    simp [execOp, ho, resolve, invoke, builtin, hd, hs, hrun, Result.andThen]
    exact hK _ _ (h _ ⟨setRow_heap w g cur _ _ _ hg, below_setRow (Below.refl _ _) hBg _⟩)
theorem splice_two {M R S : List Value} {n : Nat} (hM : M.length = n + S.length) (hR : R.length = n) : splice (splice M 0 R) n S = R ++ S := by
  have e : splice M 0 R = R ++ M.drop n := by unfold splice; simp [hR]
  rw [e]
  unfold splice
  rw [List.take_left' hR, List.drop_eq_nil_of_le (by rw [List.length_append, List.length_drop]; omega), List.append_nil]
theorem fillR (s : Rc) : Instr.fill (fun i => some (i * 8, 8)) ((Array.range (1 * 8)).map ((Value.agg (rcC zR)).cells[· % (Value.agg (rcC zR)).cells.size]!)) [(0, .agg (rcC s))] = some (rcC s) := by kernel_rfl
theorem at_bsR {ops : Array Oper} {rest : List Oper} {o : Oper} {a : Act} {w : World} {Q : Exit → Act → World → Prop} (s : Rc) (x : Operand) (hgd : o.guard = none) (ho : o.op = .buildSlice 22 1 #[(0, x)]) (hx : a.eval x = .agg (rcC s))
    (h : wpList Try.prog ops Q rest (a.put o.dst (.slice (some ⟨w.heap.size, 0, none⟩) 1 1)) (w.alloc (.cells (rcC s) 41))) : wpList Try.prog ops Q (o :: rest) a w := by
  obtain ⟨i, hi, hz0, hz1, hz2⟩ := info_parts infoR
  refine wpList_buildSlice hgd 22 41 1 #[(0, x)] ho (rcC s) i _ Try.underlying22 hi hz0 (by rw [hz1]; decide) (by rw [hz1]; decide) ?_ h
  rw [hz1]
  have e : (#[(0, x)].map fun (i, x) => (i, a.eval x)).toList = [(0, .agg (rcC s))] := by simp [hx]
  rw [e]
  exact fillR s
end Go.Proofs.Ytbiifkcphaljeaa
