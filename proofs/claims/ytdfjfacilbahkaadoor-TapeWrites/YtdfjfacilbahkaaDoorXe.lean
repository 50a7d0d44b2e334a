/- Rows of spans that are their owner's: an append of one, a store into one, a copy. -/
import Derived.Test.YtdfjfacilbahkaaDoorXd
import Derived.ArgAppend
import Derived.Laws.IdiomCopy
import Derived.Laws.CopyOwn
import Derived.Laws.MakeOwn
import Derived.Laws.OwnMore
namespace Go.Proofs.YtdfjfacilbahkaaDoor
open Go Go.RowKit
set_option linter.unusedVariables false
set_option maxHeartbeats 400000
set_option maxRecDepth 20000

theorem infoS : (Tryd.prog.info? 37).map (fun i => (i.zero, i.size, i.bytes)) = some (some (.agg (spC ⟨0, ⟨0, false, false, false, false, false, false, false, 0⟩⟩)), 10, 24) := by kernel_rfl
/-- The cells of a row of spans. -/
def rowS : List Sn → List Value
  | [] => []
  | s :: l => (spC s).toList ++ rowS l
theorem rowS_len (l : List Sn) : (rowS l).length = l.length * 10 := by
  induction l with
  | nil => rfl
  | cons s l ih => simp only [rowS, List.length_append, ih, List.length_cons, Array.length_toList, spC_size]; omega
theorem rowS_app (l r : List Sn) : rowS (l ++ r) = rowS l ++ rowS r := by
  induction l with
  | nil => rfl
  | cons s l ih => simp only [List.cons_append, rowS, ih, List.append_assoc]
theorem rowS_at (l : List Sn) : ∀ (j i : Nat) (s : Sn), l[j]? = some s → i < 10 → (rowS l)[j * 10 + i]? = (spC s)[i]? := by
  induction l with
  | nil => intro j i s h; simp at h
  | cons t l ih =>
    intro j i s h hi
    cases j with
    | zero =>
      simp at h
      subst h
      simp only [rowS, Nat.zero_mul, Nat.zero_add]
      rw [List.getElem?_append_left (by simpa [spC_size] using hi), Array.getElem?_toList]
    | succ j =>
      simp only [List.getElem?_cons_succ] at h
      simp only [rowS]
      rw [List.getElem?_append_right (by rw [Array.length_toList, spC_size]; omega), Array.length_toList, spC_size, show (j + 1) * 10 + i - 10 = j * 10 + i by omega]
      exact ih j i s h hi
theorem rowS_one (l : List Sn) : ∀ v ∈ rowS l, v.oneCell' = true := by
  induction l with
  | nil => intro v hv; simp [rowS] at hv
  | cons s l ih =>
    intro v hv
    simp only [rowS, List.mem_append] at hv
    rcases hv with h | h
    · simp [spC] at h
      rcases h with h | h | h | h | h | h | h | h | h | h <;> subst h <;> rfl
    · exact ih v h
def OwnS (B : Nat) (w : World) (v : Value) (l : List Sn) : Prop := w.ownsRow B 37 10 v l.length (rowS l)
theorem OwnS.nil (B : Nat) (w : World) : OwnS B w (.slice none 0 0) [] := World.ownsRow_nil w B _ 10
theorem OwnS.alloc {B : Nat} {w : World} {v : Value} {l : List Sn} (h : OwnS B w v l) (o : Obj) : OwnS B (w.alloc o) v l := World.ownsRow.alloc h o
theorem OwnS.below {B : Nat} {x y : World} {v : Value} {l : List Sn} (h : OwnS B x v l) (hb : Below x.heap.size x y) : OwnS B y v l := by
  refine ⟨h.1, ?_⟩
  rcases h.2 with h0 | ⟨g, cap, cur, hv, hB, hg, hr⟩
  · exact .inl h0
  · exact .inr ⟨g, cap, cur, hv, hB, (hb.block g (heap_lt hg)).trans hg, hr⟩
theorem OwnS.weak {w : World} {B B' : Nat} {v : Value} {l : List Sn} (h : OwnS B w v l) (hB : B' ≤ B) : OwnS B' w v l := by
  refine ⟨h.1, ?_⟩
  rcases h.2 with hn | ⟨g, cap, cur, h1, h2, h3⟩
  · exact .inl hn
  · exact .inr ⟨g, cap, cur, h1, Nat.le_trans hB h2, h3⟩
theorem OwnS.open {B : Nat} {w : World} {v : Value} {l : List Sn} (h : OwnS B w v l) : ∃ sp cap, v = .slice sp l.length cap ∧ LiesS w sp l ∧ (∀ a, sp = some a → a.off = 0 ∧ a.spot = none ∧ B ≤ a.block ∧ a.block < w.heap.size) ∧ (∀ g, v.ownBlock = some g ↔ sp = some ⟨g, 0, none⟩) := by
  have h0 := h
  obtain ⟨h1, h2⟩ := h
  rcases h2 with ⟨rfl, hn⟩ | ⟨g, cap, cur, rfl, hb, hg, _⟩
  · refine ⟨none, 0, by rw [hn], fun j s hj => ?_, (fun a h => by cases h), (fun g => by simp [Value.ownBlock])⟩
    have := (List.getElem?_eq_some_iff.1 hj).1
    omega
  · refine ⟨some ⟨g, 0, none⟩, cap, rfl, fun j s hj => ⟨g, 0, rfl, fun i v hv => ?_⟩, (fun a h => by cases h; exact ⟨rfl, rfl, hb, heap_lt hg⟩), (fun g => by simp [Value.ownBlock])⟩
    have hi : i < 10 := by have := (List.getElem?_eq_some_iff.1 hv).1; simpa [spC_size] using this
    rw [Array.getElem?_toList] at hv
    have := World.ownsRow.cells (g := g) h0 rfl (j * 10 + i) v (by rw [rowS_at l j i s hj hi]; exact hv)
    rw [Addr.add_lit] at this
    rw [Nat.add_assoc]
    exact this
/-- Old memory stays, but for the cells of F. -/
structure Cu (B : Nat) (F : Nat → Nat → Prop) (w w' : World) : Prop where
  low : Below B w w'
  cell : ∀ g j, g < w.heap.size → ¬ F g j → w'.cell? ⟨g, j, none⟩ = w.cell? ⟨g, j, none⟩
  blk : ∀ g, g < w.heap.size → (∀ j, ¬ F g j) → w'.heap[g]? = w.heap[g]?
theorem Cu.refl (B : Nat) (F : Nat → Nat → Prop) (w : World) : Cu B F w w := ⟨Below.refl _ _, fun _ _ _ _ => rfl, fun _ _ _ => rfl⟩
theorem Cu.trans {B : Nat} {F : Nat → Nat → Prop} {a b c : World} (h : Cu B F a b) (k : Cu B F b c) : Cu B F a c :=
  ⟨h.low.trans k.low, fun g j hg hF => (k.cell g j (Nat.lt_of_lt_of_le hg h.low.size) hF).trans (h.cell g j hg hF),
    fun g hg hF => (k.blk g (Nat.lt_of_lt_of_le hg h.low.size) hF).trans (h.blk g hg hF)⟩
theorem Cu.mono {B : Nat} {F G : Nat → Nat → Prop} {a b : World} (h : Cu B F a b) (k : ∀ g j, g < a.heap.size → F g j → G g j) : Cu B G a b := ⟨h.low, fun g j hg hG => h.cell g j hg fun hF => hG (k g j hg hF), fun g hg hG => h.blk g hg fun j hF => hG j (k g j hg hF)⟩
theorem Cu.of_below {B : Nat} {F : Nat → Nat → Prop} {a b : World} (h : Below a.heap.size a b) (hB : B ≤ a.heap.size) : Cu B F a b :=
  ⟨h.mono hB, fun g j hg _ => World.cell?_of_block (w := a) (a := ⟨g, j, none⟩) (h.block g hg), fun g hg _ => h.block g hg⟩
theorem splice_at {α : Type} (L : List α) (off : Nat) (cs : List α) (h : off + cs.length ≤ L.length) (k : Nat) : (splice L off cs)[k]? = if off ≤ k ∧ k < off + cs.length then cs[k - off]? else L[k]? := by
  unfold splice
  by_cases h1 : k < off
  · rw [List.getElem?_append_left (by simp; omega), List.getElem?_take, if_pos h1, if_neg (by omega)]
  · rw [List.getElem?_append_right (by simp; omega)]
    have e : k - (L.take off).length = k - off := by simp; omega
    rw [e]
    by_cases h2 : k < off + cs.length
    · rw [List.getElem?_append_left (by omega), if_pos (by omega)]
    · rw [List.getElem?_append_right (by omega), List.getElem?_drop, if_neg (by omega)]
      congr 1
      omega
theorem heap_setCells (b : Nat) (t : TypeId) : ∀ (vs : List Value) (o : Nat) (w : World) (cur : Array Value), w.heap[b]? = some (.cells cur t (0, 0)) → o + vs.length ≤ cur.size → (w.setCells b o vs).heap[b]? = some (.cells (splice cur.toList o vs).toArray t (0, 0)) := by
  intro vs
  induction vs with
  | nil =>
    intro o w cur h hf
    show w.heap[b]? = _
    rw [h]
    have e : splice cur.toList o [] = cur.toList := by simp [splice]
    rw [e]
  | cons v r ih =>
    intro o w cur h hf
    simp only [List.length_cons] at hf
    have := ih (o + 1) (w.setCell ⟨b, o, none⟩ v) (cur.setIfInBounds o v) (heap_setCell_same w b o cur t v h) (by simp; omega)
    show ((w.setCell ⟨b, o, none⟩ v).setCells b (o + 1) r).heap[b]? = _
    rw [this]
    congr 3
    apply List.ext_getElem?
    intro k
    rw [splice_at _ _ _ (by simp; omega), splice_at _ _ _ (by simp; omega), Array.toList_setIfInBounds]
    simp only [List.length_cons]
    by_cases h1 : k = o
    · subst h1
      rw [if_neg (by omega), if_pos (by omega), Nat.sub_self, List.getElem?_set_self (by simp; omega)]
      rfl
    · by_cases h2 : o + 1 ≤ k ∧ k < o + 1 + r.length
      · rw [if_pos h2, if_pos (by omega), show k - o = (k - (o + 1)) + 1 by omega, List.getElem?_cons_succ]
      · rw [if_neg h2, if_neg (by omega), List.getElem?_set_ne (fun h => h1 h.symm)]
theorem setCells_other (b q : Nat) (hq : q ≠ b) : ∀ (vs : List Value) (o : Nat) (w : World), (w.setCells b o vs).heap[q]? = w.heap[q]? := by
  intro vs
  induction vs with
  | nil => intro o w; rfl
  | cons v r ih => intro o w; exact (ih (o + 1) _).trans (heap_setCell_other w ⟨b, o, none⟩ q v hq)
theorem setCells_below (B b : Nat) (hB : B ≤ b) : ∀ (vs : List Value) (o : Nat) (w : World), Below B w (w.setCells b o vs) := by
  intro vs
  induction vs with
  | nil => intro o w; exact Below.refl _ _
  | cons v r ih => intro o w; exact ((Below.refl B w).setCell (p := ⟨b, o, none⟩) hB v).trans (ih (o + 1) _)
theorem setCells_cu (B b o : Nat) (hB : B ≤ b) (vs : List Value) (w : World) : Cu B (fun g j => g = b ∧ o ≤ j ∧ j < o + vs.length) w (w.setCells b o vs) :=
  ⟨setCells_below B b hB vs o w, fun g j _ hF => World.cell?_setCells_out b vs o w ⟨g, j, none⟩ (fun hb _ => by
    rcases Nat.lt_or_ge j o with h | h
    · exact .inl h
    · right
      rcases Nat.lt_or_ge j (o + vs.length) with h2 | h2
      · exact absurd ⟨hb, h, h2⟩ hF
      · exact h2), fun g _ hF => by
    by_cases hg : g = b
    · subst hg
      cases vs with
      | nil => rfl
      | cons v r => exact absurd ⟨rfl, Nat.le_refl _, by simp⟩ (hF o)
    · exact setCells_other b g hg vs o w⟩
/-- What an append of one span leaves. -/
structure App1 (B : Nat) (v : Value) (l : List Sn) (s : Sn) (v' : Value) (w w' : World) : Prop where
  own : OwnS B w' v' (l ++ [s])
  new : ∀ g, v'.ownBlock = some g → v.ownBlock = some g ∨ w.heap.size ≤ g
  cu : Cu B (fun g j => v.ownBlock = some g ∧ l.length * 10 ≤ j) w w'
theorem App1.grew {B : Nat} {v : Value} {l : List Sn} {s : Sn} {v' : Value} {w w' : World} (hB : B ≤ w.heap.size) (h1 : w'.ownsRow w.heap.size 37 10 v' (l.length + 1) (rowS l ++ (spC s).toList)) (h2 : w.grownBy w' none) : App1 B v l s v' w w' := by
  have ho : OwnS w.heap.size w' v' (l ++ [s]) := by
    unfold OwnS
    rw [rowS_app, List.length_append]
    simpa [rowS] using h1
  exact ⟨ho.weak hB, fun g hg => .inr (h1.lt g hg).1, Cu.of_below ⟨h2.os, h2.tape, h2.output, h2.size, fun k hk => h2.block k hk (by simp)⟩ hB⟩
theorem at_app {ops : Array Oper} {rest : List Oper} {o : Oper} {a : Act} {w : World} {Q : Exit → Act → World → Prop} (hgd : o.guard = none) (s x : Operand)
    (ho : o.op = .call { callee := .builtin .append, args := #[s, x], argTypes := #[38, 38] }) (B : Nat) (v : Value) (l : List Sn) (hs : a.eval s = v) (hown : OwnS B w v l)
    (g0 : Nat) (u : Sn) (hx : a.eval x = .slice (some ⟨g0, 0, none⟩) 1 1) (hu : Bx w g0 (spC u) 37) (hn : l.length ≤ 1000000000) (hB : B ≤ w.heap.size)
    (k : ∀ v' w', Hid (App1 B v l u v' w w') → wpList Tryd.prog ops Q rest (a.put o.dst v') w') : wpList Tryd.prog ops Q (o :: rest) a w := by
  obtain ⟨i, hi, hz0, hz1, hz2⟩ := info_parts infoS
  have hc : ∀ j u', (spC u).toList[j]? = some u' → w.cell? ((⟨g0, 0, none⟩ : Addr).add j) = some u' := fun j u' h => by
    rw [Addr.add_lit, Nat.zero_add]
    exact hu.c j u' (by rw [← Array.getElem?_toList]; exact h)
  have hnews : ∀ y ∈ (spC u).toList, y.oneCell' = true := fun y hy => rowS_one [u] y (by simp only [rowS, List.append_nil]; exact hy)
  have b1 : l.length + 1 ≤ maxLen := by unfold maxLen; omega
  have b2 : (l.length + 1) * 24 ≤ 140737488355328 := by omega
  have hul : (spC u).toList.length = 1 * 10 := by rw [Array.length_toList, spC_size]
  have hown' := hown
  obtain ⟨hl, hor⟩ := hown
  rcases hor with ⟨rfl, hn0⟩ | ⟨g, cap, cur, rfl, hbg, hg, hnc, hcm, hcs, htake⟩
  · have hl0 : l = [] := List.eq_nil_of_length_eq_zero hn0
    subst hl0
    refine wpList_append_grows w hgd s x 38 ho 37 i _ 10 24 Tryd.underlying38 hi hz0 hz1 hz2 rfl (by decide) none 0 0 [] hs (fun _ => ⟨rfl, rfl⟩) rfl (fun b hb => by cases hb) ⟨g0, 0, none⟩ 1 1 (spC u).toList hx hul hc hnews (by decide) b1 b2 ?_
    intro v' w' r1 r2
    exact k v' w' (App1.grew hB r1 r2)
  · by_cases hr : l.length + 1 ≤ cap
    · have hfit : l.length * 10 + 10 ≤ cur.size := by rw [hcs]; omega
      refine wpList_append_arg w hgd s x 38 ho 37 i _ 10 24 Tryd.underlying38 hi hz0 hz1 hz2 rfl (by decide) g 0 l.length cap (rowS l) hs hl ?_ ⟨g0, 0, none⟩ 1 1 (spC u).toList hx hul hc hnews ?_ b1 b2 ?_ (fun h => absurd hr (by omega))
      · intro j u' hj
        have := World.ownsRow.cells (g := g) hown' rfl j u' hj
        rwa [Addr.add_lit] at this
      · intro _ j hj
        rw [hul] at hj
        refine ⟨?_, frozen_heap hg _⟩
        rw [cell_heap hg, Array.getElem?_eq_getElem (by omega)]
        rfl
      · intro _
        refine k _ _ ?_
        have e0 : 0 + l.length * 10 = l.length * 10 := by omega
        rw [e0]
        refine ⟨⟨by rw [rowS_app, List.length_append, List.length_append, rowS_len, rowS_len]; simp; omega, .inr ⟨g, cap, _, by rw [List.length_append]; rfl, hbg, heap_setCells g _ _ _ w cur hg (by rw [hul]; omega), by rw [List.length_append]; exact hr, hcm, ?_, ?_⟩⟩, fun g' h => .inl h, ?_⟩
        · have := length_splice cur.toList (l.length * 10) (spC u).toList (by rw [hul, Array.length_toList]; omega)
          simpa [hcs] using this
        · rw [rowS_app, List.length_append]
          simp only [rowS, List.append_nil, List.length_cons, List.length_nil]
          unfold splice
          rw [← List.append_assoc, htake, List.take_append_of_le_length (by rw [List.length_append, rowS_len, hul]; omega)]
          exact List.take_of_length_le (by rw [List.length_append, rowS_len, hul]; omega)
        · exact (setCells_cu B g _ hbg _ w).mono fun g' j _ hF => ⟨by rw [hF.1]; rfl, hF.2.1⟩
    · have hcells := World.ownsRow.cells (g := g) hown' rfl
      refine wpList_append_grows w hgd s x 38 ho 37 i _ 10 24 Tryd.underlying38 hi hz0 hz1 hz2 rfl (by decide) (some ⟨g, 0, none⟩) l.length cap (rowS l) hs (fun h => by cases h) hl (fun b hb => by cases hb; exact hcells) ⟨g0, 0, none⟩ 1 1 (spC u).toList hx hul hc hnews (by omega) b1 b2 ?_
      intro v' w' r1 r2
      exact k v' w' (App1.grew hB r1 r2)
end Go.Proofs.YtdfjfacilbahkaaDoor
