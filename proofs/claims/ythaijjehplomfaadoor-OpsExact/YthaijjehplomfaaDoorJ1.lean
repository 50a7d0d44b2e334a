/- What holds of any program: rows of cells in boxes of their own, regions that draw their order, an operation whose value is named. -/
import Derived.Test.YthaijjehplomfaaDoorProg
import Derived.Below
import Derived.FnData
import Derived.WalkKit
import Derived.WalkSpells
import Derived.WalkLawsBesides
import Derived.ChangeKeysEq
import Derived.Deep.QuietTactic
import Derived.BigQuiet
import Derived.Deep.OwnRows
import Derived.Handy
import Derived.Laws.Rows
import Derived.OwnWalk
import Derived.Deep.MidRow
import Derived.Great.BuildSlice
import Derived.Laws.StructEq
import Derived.StillTail
import Derived.BigGuardPart
import Derived.Deep.RegionWith
import Derived.Deep.RegionHeld3
namespace Go.Proofs.YthaijjehplomfaaDoor
open Go Go.RowKit
set_option linter.unusedVariables false
set_option maxHeartbeats 400000

theorem cell_heap {x : World} {b t : Nat} {cs : Array Value} (h : x.heap[b]? = some (.cells cs t (0, 0))) (j : Nat) : x.cell? ⟨b, j, none⟩ = cs[j]? := by unfold World.cell?; simp [h]
theorem frozen_heap {x : World} {b t : Nat} {cs : Array Value} (h : x.heap[b]? = some (.cells cs t (0, 0))) (j : Nat) : x.frozen? ⟨b, j, none⟩ = false := by unfold World.frozen?; simp [h]
theorem heap_lt {x : World} {b : Nat} {o : Obj} (h : x.heap[b]? = some o) : b < x.heap.size := (Array.getElem?_eq_some_iff.1 h).1
theorem alloc_last' (w : World) (o : Obj) : (w.alloc o).heap[w.heap.size]? = some o := by unfold World.alloc; simp
theorem below_drewN {B : Nat} {a w : World} (h : Below B a w) {n : Nat} : Below B a (w.drewN n) := ⟨h.os, h.tape, h.output, h.size, h.block⟩
theorem below_drew {B : Nat} {a w : World} (h : Below B a w) : Below B a w.drew := ⟨h.os, h.tape, h.output, h.size, h.block⟩

theorem below1 (w : World) (o : Obj) : Below w.heap.size w (w.alloc o) := (Below.refl _ _).alloc (Nat.le_refl _) _
/-- The world as a letter of which only F is known. -/
theorem gen_world {P : Program} {ops : Array Oper} {rest : List Oper} {a : Act} {Q : Exit → Act → World → Prop} (W : World) (F : World → Prop) (hF : F W) (h : ∀ y, Hid (F y) → wpList P ops Q rest a y) : wpList P ops Q rest a W := h W hF

/-- An operation, its value named; one known by its field. -/
theorem at_op {ops : Array Oper} {rest : List Oper} {o : Oper} {a : Act} {w : World} {Q : Exit → Act → World → Prop} (v : Value) (hg : Region.wanted o (yielded ops a.tmps) = true) (h : (execOp a.eval o).run Tryd.prog w = .ok (.value v) w)
    (k : wpList Tryd.prog ops Q rest (a.put o.dst v) w) : wpList Tryd.prog ops Q (o :: rest) a w :=
  BigFrame.wpList_want hg fun K hK => by
    unfold Oper.wp
    rw [h]
    exact hK _ _ k
section
variable {P : Program} {ops : Array Oper} {md : Region.Mode} {C : World → Prop} {n : Nat} {L : Array Bool → Act → Prop}

/-- f operations come up, each of the first n, in whatever order; then L. -/
def HeadQ (P : Program) (md : Region.Mode) (ops : Array Oper) (C : World → Prop) (n : Nat) (L : Array Bool → Act → Prop) : Nat → Array Bool → Act → Prop
  | 0, s, a => L s a
  | f + 1, s, a => Region.ready md ops s ≠ [] ∧ ∀ i ∈ Region.ready md ops s, i < n ∧ qOp P ops C i (HeadQ P md ops C n L f (s.setIfInBounds i true)) a

theorem HeadQ.any {g : Nat} {Q : Exit → Act → World → Prop} (hL : ∀ s a w, C w → L s a → wpAny P md ops Q g s a w) (f : Nat) : ∀ (s : Array Bool) (a : Act) (w : World), C w → HeadQ P md ops C n L f s a → wpAny P md ops Q (f + g) s a w := by
  induction f with
  | zero => intro s a w hw h; rw [Nat.zero_add]; exact hL s a w hw h
  | succ f ih =>
    intro s a w hw h
    rw [Nat.add_right_comm]
    exact ⟨fun h0 => absurd h0 h.1, fun i hi => wpOp_of_qOp hw (fun a' w' hw' h' => ih _ a' w' hw' h') (h.2 i hi).2⟩

theorem HeadQ.first {i : Nat} {oi : Oper} {v : Value} (hi : ops[i]? = some oi) (hsel : ∀ (j : Nat) (o : Oper) cs b, ops[j]? = some o → o.op ≠ .select cs b)
    (hs : Region.sinkB md ops n = true) (hc : Region.chainB md ops n = true) (hn : n < ops.size) (hin : i < n) (hL : ∀ s a, L s a → ∀ j ∈ Region.ready md ops s, n ≤ j) (f : Nat) :
    ∀ (s : Array Bool) (a : Act), HeadInv md ops n s →
      (∀ j oj, ops[j]? = some oj → j ≠ i → s.getD j true = false → (∀ e ∈ oj.after, Region.binds md e = true → e.on ≠ i) → oi.apart ops oj = true) →
      i ∈ Region.ready md ops s → YieldsIn P ops C oi v a → HeadQ P md ops C n L f (s.setIfInBounds i true) (a.put oi.dst v) → HeadQ P md ops C n L (f + 1) s a := by
  induction f with
  | zero =>
    intro s a inv free hr hy H
    refine ⟨List.ne_nil_of_mem hr, fun j hj => ?_⟩
    have hjn : j < n := Nat.lt_of_not_le fun h => tail_waits hs hc hn inv _ i rfl hin (mem_ready.1 hr).1 j h hj
    by_cases e : j = i
    · rw [e]; exact ⟨hin, hy.qOp hi H⟩
    · exact absurd (hL _ _ H j (ready_mono hj e)) (by omega)
  | succ f ih =>
    intro s a inv free hr hy H
    refine ⟨List.ne_nil_of_mem hr, fun j hj => ?_⟩
    have hjn : j < n := Nat.lt_of_not_le fun h => tail_waits hs hc hn inv _ i rfl hin (mem_ready.1 hr).1 j h hj
    by_cases e : j = i
    · rw [e]; exact ⟨hin, hy.qOp hi H⟩
    · obtain ⟨hju, oj, hoj, hall⟩ := mem_ready.1 hj
      have hno : ∀ e ∈ oj.after, Region.binds md e = true → e.on ≠ i := fun e he hb hei => by
        have h1 := hall e he hb
        rw [hei, getD_both (mem_ready.1 hr).1] at h1
        exact absurd h1 (by simp)
      refine ⟨hjn, qOp_mono (fun a' h3 => ih (s.setIfInBounds j true) a' (inv.set hj hjn) (fun k ok hk hki hu hw => free k ok hk hki ?_ hw) (ready_mono hr (Ne.symm e)) h3.1 ?_)
        (qOp_put hoj (free j oj hoj e hju hno) (fun cs b => hsel i oi cs b hi) (fun cs b => hsel j oj cs b hoj) hy (H.2 j (ready_mono hj e)).2)⟩
      · by_cases hjk : j = k
        · rw [← hjk]; exact hju
        · rwa [getD_set_ne true hjk] at hu
      · rw [Array.setIfInBounds_comm _ _ e]; exact h3.2

theorem HeadQ.lex {g : Nat} {Lq : Act → Prop} (hsel : Region.noSelect ops = true) (hs : Region.sinkB md ops n = true) (hc : Region.chainB md ops n = true) (hn : n < ops.size) (l : List Oper) :
    ∀ (k : Nat) (s : Array Bool) (a : Act), (∀ j, j < l.length → l[j]? = ops[k + j]?) → k + l.length = n → HeadInv md ops n s → Region.lexHead md ops g l.length k s = true → wpQuiet P ops C Lq l a →
      HeadQ P md ops C n (fun s' a' => Region.seqB md ops g n s' = true ∧ Lq a') l.length s a := by
  induction l with
  | nil => intro k s a _ hk _ hB h; cases (show k = n by simpa using hk); exact ⟨by simpa [Region.lexHead] using hB, h⟩
  | cons o l ih =>
    intro k s a hl hk inv hB h
    have h0 : ops[k]? = some o := by simpa using (hl 0 (by simp)).symm
    simp only [List.length_cons, Region.lexHead, Bool.and_eq_true] at hB
    simp only [List.length_cons] at hk
    have hr : k ∈ Region.ready md ops s := by simpa using hB.1.1
    have hq : qOp P ops C k (wpQuiet P ops C Lq l) a := by unfold qOp; simp only [h0]; exact h
    obtain ⟨v, hy, hK⟩ := yieldsIn_of_qOp h0 hq
    refine HeadQ.first h0 (Region.noSelect_spec hsel) hs hc hn (by omega) (fun s' a' hL => seqB_ready hL.1) l.length s a inv (Region.free_spec h0 hB.1.2) hr hy (ih (k + 1) _ _ (fun j hj => ?_) (by omega) (inv.set hr (by omega)) hB.2 hK)
    have := hl (j + 1) (by simp; omega)
    simpa [Nat.add_assoc, Nat.add_comm 1 j] using this

theorem region_class_tail {id : Nat} {Q : Exit → Act → World → Prop} {a : Act} {w : World} {l : List Oper} (n : Nat) (C : World → Prop) (hm : P.follows .mixedOrders = true) (hB : Region.lexTailB .any l.toArray n = true) (hC : C w.drew)
    (h : wpQuiet P l.toArray C (fun a' => ∀ w', C w' → wpList P l.toArray Q (l.drop n) a' w') (l.take n) a) : (Code.region id l.toArray true).wp P Q a w := by
  simp only [Region.lexTailB, Bool.and_eq_true, decide_eq_true_eq] at hB
  obtain ⟨⟨⟨⟨hsel, hn⟩, hs⟩, hc⟩, hlex⟩ := hB
  have hn' : n < l.length := by simpa using hn
  have ht : (l.take n).length = n := by simp; omega
  have hd : (l.drop n).length = l.toArray.size - n := by simp
  have inv0 : HeadInv .any l.toArray n (Array.replicate l.toArray.size false) :=
    ⟨by simp, fun j oj _ hl => absurd hl (by rw [getD_replicate_false]; simp), fun t _ h => getD_in (by simpa using h) (getD_replicate_false _ _)⟩
  have H := HeadQ.lex (md := .any) (g := l.toArray.size - n) hsel hs hc hn (l.take n) 0 _ a (fun j hj => by
    rw [ht] at hj
    simp [hj]) (by simpa using ht) inv0 (by rw [ht]; exact hlex) h
  have A := HeadQ.any (Q := Q) (g := l.toArray.size - n) (fun s a' w' hw' hL => by
    have := wpAny_of_seq (md := .any) (Q' := Q) (l.drop n) n s a' w' (fun j => by simp [List.getElem?_drop]) (by rw [hd]; exact hL.1) (hL.2 w' hw')
    rwa [hd] at this) _ _ _ _ hC H
  rw [ht, show n + (l.toArray.size - n) = l.toArray.size by omega] at A
  exact wp_region_any hm A
end

/-- One operation of the head, its value named. -/
theorem quiet_one {P : Program} {ops : Array Oper} {C : World → Prop} {Q : Act → Prop} {o : Oper} {rest : List Oper} {a : Act} (v : Value) (hw : Region.wanted o (yielded ops a.tmps) = true) (hv : ∀ w, C w → o.quietAt P a C w v) (k : wpQuiet P ops C Q rest (a.put o.dst v)) : wpQuiet P ops C Q (o :: rest) a :=
  wpQuiet_step fun K hK => by rw [if_pos hw]; exact ⟨v, hv, hK _ k⟩
/-- Boxes in a row, each with its cells and type. -/
structure Fm (w : World) (l : List (Nat × Array Value × TypeId)) (y : World) : Prop where
  get : ∀ (i b : Nat) (cs : Array Value) (t : TypeId), l[i]? = some (b, cs, t) → y.heap[b]? = some (.cells cs t (0, 0))
  ge : ∀ (i b : Nat) (cs : Array Value) (t : TypeId), l[i]? = some (b, cs, t) → w.heap.size ≤ b
  ne : ∀ (i j b : Nat) (cs cs' : Array Value) (t t' : TypeId), l[i]? = some (b, cs, t) → l[j]? = some (b, cs', t') → i = j
  low : Below w.heap.size w y
theorem Fm.nil (w : World) : Fm w [] w := ⟨fun _ _ _ _ h => by simp at h, fun _ _ _ _ h => by simp at h, fun _ _ _ _ _ _ _ h => by simp at h, Below.refl _ _⟩
theorem Fm.below {w : World} {l : List (Nat × Array Value × TypeId)} {y y' : World} (h : Fm w l y) (hb : Below y.heap.size y y') : Fm w l y' :=
  ⟨fun i b cs t e => (hb.block b (heap_lt (h.get i b cs t e))).trans (h.get i b cs t e), h.ge, h.ne, h.low.trans (hb.mono h.low.size)⟩
theorem Fm.new {w : World} {l : List (Nat × Array Value × TypeId)} {y : World} (h : Fm w l y) (cs : Array Value) (t : TypeId) : Fm w (l ++ [(y.heap.size, cs, t)]) (y.alloc (.cells cs t)) := by
  have hb := h.below ((Below.refl y.heap.size y).alloc (Nat.le_refl _) (.cells cs t))
  have key : ∀ (i b : Nat) (cs' : Array Value) (t' : TypeId), (l ++ [(y.heap.size, cs, t)])[i]? = some (b, cs', t') → l[i]? = some (b, cs', t') ∧ i < l.length ∨ i = l.length ∧ b = y.heap.size ∧ cs' = cs ∧ t' = t := by
    intro i b cs' t' e
    rcases Nat.lt_or_ge i l.length with hi | hi
    · rw [List.getElem?_append_left hi] at e; exact .inl ⟨e, hi⟩
    · rw [List.getElem?_append_right hi] at e
      rcases Nat.eq_or_lt_of_le hi with h0 | h0
      · rw [← h0, Nat.sub_self] at e
        simp at e
        exact .inr ⟨h0.symm, e.1.symm, e.2.1.symm, e.2.2.symm⟩
      · rw [List.getElem?_eq_none (by simp; omega)] at e; cases e
  refine ⟨fun i b cs' t' e => ?_, fun i b cs' t' e => ?_, fun i j b c1 c2 t1 t2 e1 e2 => ?_, hb.low⟩
  · rcases key i b cs' t' e with ⟨k, _⟩ | ⟨_, rfl, rfl, rfl⟩
    · exact hb.get i b cs' t' k
    · exact alloc_last' y _
  · rcases key i b cs' t' e with ⟨k, _⟩ | ⟨_, rfl, rfl, rfl⟩
    · exact h.ge i b cs' t' k
    · exact h.low.size
  · rcases key i b c1 t1 e1 with ⟨k1, l1⟩ | ⟨k1, kb, _⟩ <;> rcases key j b c2 t2 e2 with ⟨k2, l2⟩ | ⟨k2, kb2, _⟩
    · exact h.ne i j b c1 c2 t1 t2 k1 k2
    · exact absurd (heap_lt (h.get i b c1 t1 k1)) (by omega)
    · exact absurd (heap_lt (h.get j b c2 t2 k2)) (by omega)
    · omega
theorem Fm.put {w : World} {l : List (Nat × Array Value × TypeId)} {y y' : World} (h : Fm w l y) (i b : Nat) (cs cs' : Array Value) (t : TypeId) (hi : l[i]? = some (b, cs, t)) (k : y'.heap[b]? = some (.cells cs' t (0, 0)) ∧ (∀ B, B ≤ b → Below B y y') ∧ ∀ q, q ≠ b → y'.heap[q]? = y.heap[q]?) : Fm w (l.set i (b, cs', t)) y' := by
  have key : ∀ (j b' : Nat) (c1 : Array Value) (t1 : TypeId), (l.set i (b, cs', t))[j]? = some (b', c1, t1) → (j = i ∧ b' = b ∧ c1 = cs' ∧ t1 = t) ∨ (j ≠ i ∧ l[j]? = some (b', c1, t1)) := by
    intro j b' c1 t1 e
    by_cases hj : i = j
    · subst hj
      rw [List.getElem?_set] at e
      have hl : i < l.length := (List.getElem?_eq_some_iff.1 hi).1
      simp [hl] at e
      exact .inl ⟨rfl, e.1.symm, e.2.1.symm, e.2.2.symm⟩
    · rw [List.getElem?_set_ne hj] at e; exact .inr ⟨fun x => hj x.symm, e⟩
  refine ⟨fun j b' c1 t1 e => ?_, fun j b' c1 t1 e => ?_, fun j j' b' c1 c2 t1 t2 e1 e2 => ?_, h.low.trans (k.2.1 _ (h.ge i b cs t hi))⟩
  · rcases key j b' c1 t1 e with ⟨_, rfl, rfl, rfl⟩ | ⟨hj, e'⟩
    · exact k.1
    · exact (k.2.2 b' (fun x => hj (h.ne j i b c1 cs t1 t (x ▸ e') hi))).trans (h.get j b' c1 t1 e')
  · rcases key j b' c1 t1 e with ⟨_, rfl, rfl, rfl⟩ | ⟨_, e'⟩
    · exact h.ge i b' cs t1 hi
    · exact h.ge j b' c1 t1 e'
  · rcases key j b' c1 t1 e1 with ⟨rfl, rfl, _⟩ | ⟨hj, e1'⟩ <;> rcases key j' b' c2 t2 e2 with ⟨rfl, hb2, _⟩ | ⟨hj', e2'⟩
    · rfl
    · exact h.ne j j' b' cs c2 t t2 hi e2'
    · subst hb2; exact h.ne j j' b' c1 cs t1 t e1' hi
    · exact h.ne j j' b' c1 c2 t1 t2 e1' e2'
theorem Fm.setCell {w : World} {l : List (Nat × Array Value × TypeId)} {y : World} (h : Fm w l y) (i b : Nat) (cs cs' : Array Value) (t : TypeId) (hi : l[i]? = some (b, cs, t)) (j : Nat) (v : Value) (hv : cs.setIfInBounds j v = cs') : Fm w (l.set i (b, cs', t)) (y.setCell ⟨b, j, none⟩ v) := by
  refine h.put i b cs cs' t hi ⟨?_, fun B hB => (Below.refl B y).setCell (p := ⟨b, j, none⟩) hB v, fun q hq => heap_setCell_other y ⟨b, j, none⟩ q v hq⟩
  have := heap_setCell_same y b j cs t v (h.get i b cs t hi)
  rw [hv] at this
  exact this
theorem Fm.pre {w : World} {l l' : List (Nat × Array Value × TypeId)} {y : World} (h : Fm w (l ++ l') y) : Fm w l y := by
  have key : ∀ (i b : Nat) (cs : Array Value) (t : TypeId), l[i]? = some (b, cs, t) → (l ++ l')[i]? = some (b, cs, t) := fun i b cs t e => by
    rw [List.getElem?_append_left (List.getElem?_eq_some_iff.1 e).1]; exact e
  exact ⟨fun i b cs t e => h.get i b cs t (key i b cs t e), fun i b cs t e => h.ge i b cs t (key i b cs t e), fun i j b c1 c2 t1 t2 e1 e2 => h.ne i j b c1 c2 t1 t2 (key _ _ _ _ e1) (key _ _ _ _ e2), h.low⟩
theorem range_keep {w y : World} {g o : Nat} {cs : List Value} (h : w.rangeAt g o cs) (hb : Below w.heap.size w y) : y.rangeAt g o cs := fun j v hv => by
  have k := h j v hv
  have hl : g < w.heap.size := World.block_lt_of_cell? w ⟨g, o + j, none⟩ k
  exact (World.cell?_of_block (w := w) (a := ⟨g, o + j, none⟩) (hb.block g hl)).trans k
theorem idxP {P : Program} {t e : TypeId} {s g off len cap : Nat} (ht : P.underlying t = some (.slice e)) (hs : (P.info? e).map (·.size) = some s) (k : IntKind) (i : Nat) (w : World) (h : i < len) :
   (Instr.indexAt t (.slice (some ⟨g, off, none⟩) len cap) (.int k (i : Int))).run P w = .ok (.pointer (some ⟨g, off + i * s, none⟩)) w := by
  have e2 : P.elem t = e := by unfold Program.elem; rw [ht]
  rw [run_indexAt_slice _ _ _ _ _ _ _ (by rw [e2, ht]), e2, if_pos ⟨by omega, by omega⟩]
  obtain ⟨inf, hi, rfl⟩ := Option.map_eq_some_iff.1 hs
  have e3 : P.cellsOf e = inf.size := by unfold Program.cellsOf; rw [hi]; rfl
  rw [run_sizeOf _ hi, e3]
  have e4 : (⟨g, off, none⟩ : Addr).add (i * inf.size) = ⟨g, off + i * inf.size, none⟩ := by
    unfold Addr.add
    split
    · rename_i h0; rw [h0]; rfl
    · rfl
  simp [e4]
theorem quiet_skip {P : Program} {ops : Array Oper} {C : World → Prop} {Q : Act → Prop} {o : Oper} {rest : List Oper} {a : Act} (hw : Region.wanted o (yielded ops a.tmps) = false) (k : wpQuiet P ops C Q rest (a.put o.dst undef)) : wpQuiet P ops C Q (o :: rest) a :=
  wpQuiet_step fun K hK => by rw [if_neg (by rw [hw]; exact Bool.false_ne_true)]; exact hK _ k
/-- A type whose values are rows of n cells. -/
structure Rt (P : Program) (t : TypeId) (n : Nat) : Prop where
  u : ∃ d, P.underlying t = some d ∧ (match d with | .struct _ | .array _ _ => true | _ => false) = true
  i : (P.info? t).map (·.size) = some n
/-- A row of cells in a box of its own. -/
def Bx (x : World) (b : Nat) (cs : Array Value) (t : TypeId) : Prop := x.heap[b]? = some (.cells cs t (0, 0))
theorem Bx.c {x : World} {b t : Nat} {cs : Array Value} (h : Bx x b cs t) (i : Nat) (v : Value) (hv : cs[i]? = some v) : x.cell? ⟨b, i, none⟩ = some v := (cell_heap h i).trans hv
theorem Bx.fz {x : World} {b t : Nat} {cs : Array Value} (h : Bx x b cs t) (i : Nat) : x.frozen? ⟨b, i, none⟩ = false := frozen_heap h i
theorem Fm.bx {w : World} {l : List (Nat × Array Value × TypeId)} {y : World} (h : Fm w l y) (i b : Nat) (cs : Array Value) (t : TypeId) (e : l[i]? = some (b, cs, t)) : Bx y b cs t := h.get i b cs t e
theorem Fm.one (w : World) (cs : Array Value) (t : TypeId) : Fm w [(w.heap.size, cs, t)] (w.alloc (.cells cs t)) := (Fm.nil w).new cs t
theorem Fm.two (w : World) (cs cs' : Array Value) (t t' : TypeId) : Fm w [(w.heap.size, cs, t), (w.heap.size + 1, cs', t')] ((w.alloc (.cells cs t)).alloc (.cells cs' t')) := by
  have h := ((Fm.nil w).new cs t).new cs' t'
  simpa using h
section
variable {P : Program} {ops : Array Oper} {rest : List Oper} {o : Oper} {a : Act} {w : World} {Q : Exit → Act → World → Prop} {t : TypeId} {n : Nat}

theorem at_load (R : Rt P t n) (b : Nat) (cs : Array Value) (h : Bx w b cs t) (hs : cs.size = n) (x : Operand) (hgd : Region.wanted o (yielded ops a.tmps) = true) (ho : o.op = .load t x) (hx : a.eval x = .pointer (some ⟨b, 0, none⟩))
    (k : wpList P ops Q rest (a.put o.dst (.agg cs)) w) : wpList P ops Q (o :: rest) a w := by
  obtain ⟨d, hu, hd⟩ := R.u
  exact BigFrame.wpList_want hgd fun _ hK => wp_load_row t x ho b hx t cs (0, 0) d h hu (by cases d <;> first | rfl | exact hd) (by rw [hs]; exact R.i) (hK _ _ k)
theorem at_loadm (R : Rt P t n) (b i : Nat) (cs : Array Value) (h : w.rangeAt b i cs.toList) (hs : cs.size = n) (x : Operand) (hgd : Region.wanted o (yielded ops a.tmps) = true) (ho : o.op = .load t x) (hx : a.eval x = .pointer (some ⟨b, i, none⟩))
    (k : wpList P ops Q rest (a.put o.dst (.agg cs)) w) : wpList P ops Q (o :: rest) a w := by
  obtain ⟨d, hu, hd⟩ := R.u
  have hr := run_loadVar_mid (P := P) w b i t cs.toList d h hu hd (by rw [Array.length_toList, hs]; exact R.i)
  rw [Array.toArray_toList] at hr
  refine BigFrame.wpList_want hgd fun K hK => ?_
  unfold Oper.wp execOp
  simp only [ho, hx, Instr.loadAt, Instr.sureAddr, Sem.run_bind, Sem.run_pure, Result.andThen_ok, hr]
  exact hK _ _ k
theorem wp_st {K : Act → World → Prop} (R : Rt P t n) (b : Nat) (c0 cs : Array Value) (h : Bx w b c0 t) (h0 : c0.size = n) (hs : cs.size = n) (h1 : cs.all (·.oneCell') = true) (x y : Operand) (ho : o.op = .store t x y) (hx : a.eval x = .pointer (some ⟨b, 0, none⟩)) (hy : a.eval y = .agg cs)
    (k : ∀ w', Hid (Bx w' b cs t ∧ (∀ B, B ≤ b → Below B w w') ∧ ∀ q, q ≠ b → w'.heap[q]? = w.heap[q]?) → K (a.put o.dst undef) w') : o.wp P a w K Q :=
  wp_store_row t x y ho b cs hx hy t c0 h (by rw [hs]; exact R.i) (h0.trans hs.symm) h1 (k _ ⟨setRow_heap w b _ _ t _ h, fun B hB => ⟨rfl, rfl, rfl, by simp, fun q hq => setRow_other w b q _ (by omega)⟩, fun q hq => setRow_other w b q _ hq⟩)
theorem at_st (R : Rt P t n) (b : Nat) (c0 cs : Array Value) (h : Bx w b c0 t) (h0 : c0.size = n) (hs : cs.size = n) (h1 : cs.all (·.oneCell') = true) (x y : Operand) (hgd : o.guard = none) (ho : o.op = .store t x y) (hx : a.eval x = .pointer (some ⟨b, 0, none⟩)) (hy : a.eval y = .agg cs)
    (k : ∀ w', Hid (Bx w' b cs t ∧ (∀ B, B ≤ b → Below B w w') ∧ ∀ q, q ≠ b → w'.heap[q]? = w.heap[q]?) → wpList P ops Q rest (a.put o.dst undef) w') : wpList P ops Q (o :: rest) a w :=
  wpList_plain hgd fun _ hK => wp_st R b c0 cs h h0 hs h1 x y ho hx hy fun w' hw => hK _ _ (k w' hw)
theorem at_bu (parts : Array (Nat × Operand)) (l : List (Nat × Value)) (cs : Array Value) (hgd : Region.wanted o (yielded ops a.tmps) = true) (ho : o.op = .build t parts) (hl : (parts.map fun (i, x) => (i, a.eval x)).toList = l) (hb : P.built t l = some cs)
    (k : wpList P ops Q rest (a.put o.dst (.agg cs)) w) : wpList P ops Q (o :: rest) a w :=
  BigFrame.wpList_want hgd fun K hK => by
    have hr := run_build (P := P) w t (parts.map fun (i, x) => (i, a.eval x)) cs (by rw [hl]; exact hb)
    unfold Oper.wp execOp
    simp only [ho, Sem.run_bind, hr, Result.andThen_ok, Sem.run_pure]
    exact hK _ _ k
theorem ret_row {fn : Func} {R' : Ending → World → Prop} {p : Tmp} {b : Nat} {cs : Array Value} (R : Rt P t n) (hr : fn.results = #[.cell p t]) (hp : a.tmps.getD p undef = .pointer (some ⟨b, 0, none⟩)) (h : Bx w b cs t) (hs : cs.size = n) (hd : a.defers = []) (hR : R' (.returned (.agg cs)) w) : bodyPost P fn R' .ret a w := by
  obtain ⟨d, hu, hd'⟩ := R.u
  exact bodyPost_ret (results_cell_row hr a.tmps w b t cs (0, 0) d hp h hu (by cases d <;> first | rfl | exact hd') (by rw [hs]; exact R.i)) hd hR
theorem q_load {C : World → Prop} (R : Rt P t n) (b : Nat) (cs : Array Value) (h : ∀ w, C w → Bx w b cs t) (hs : cs.size = n) (x : Operand) (ho : o.op = .load t x) (hx : a.eval x = .pointer (some ⟨b, 0, none⟩)) : ∀ w, C w → o.quietAt P a C w (.agg cs) := fun w hw => by
  obtain ⟨d, hu, hd⟩ := R.u
  have hr := run_loadVar_row (P := P) w b t t cs (0, 0) d (h w hw) hu (by cases d <;> first | rfl | exact hd) (by rw [hs]; exact R.i)
  unfold Oper.quietAt execOp
  simp only [ho, hx, Instr.loadAt, Instr.sureAddr, Sem.run_bind, Sem.run_pure, Result.andThen_ok, hr]
  exact ⟨rfl, rfl⟩
theorem q_loadm {C : World → Prop} (R : Rt P t n) (b i : Nat) (cs : Array Value) (h : ∀ w, C w → w.rangeAt b i cs.toList) (hs : cs.size = n) (x : Operand) (ho : o.op = .load t x) (hx : a.eval x = .pointer (some ⟨b, i, none⟩)) : ∀ w, C w → o.quietAt P a C w (.agg cs) := fun w hw => by
  obtain ⟨d, hu, hd⟩ := R.u
  have hr := run_loadVar_mid (P := P) w b i t cs.toList d (h w hw) hu hd (by rw [Array.length_toList, hs]; exact R.i)
  rw [Array.toArray_toList] at hr
  unfold Oper.quietAt execOp
  simp only [ho, hx, Instr.loadAt, Instr.sureAddr, Sem.run_bind, Sem.run_pure, Result.andThen_ok, hr]
  exact ⟨rfl, rfl⟩
end
/-- Rows held against each other: eq tells how. -/
structure Eqs (P : Program) (t : TypeId) (X Y : Array Value) (b : Bool) : Prop where
  g : P.eqGuardType P.depth t = false
  e : ∀ w, (Op.equalIn 10000 t (.agg X) (.agg Y)).run P w = .ok b w
theorem at_ne {P : Program} {ops : Array Oper} {rest : List Oper} {o : Oper} {a : Act} {w : World} {Q : Exit → Act → World → Prop} {t : TypeId} {X Y : Array Value} {b : Bool} (E : Eqs P t X Y b) (x y : Operand) (t' : TypeId) (hgd : Region.wanted o (yielded ops a.tmps) = true) (ho : o.op = .binOp .neq t x y t') (hx : a.eval x = .agg X) (hy : a.eval y = .agg Y)
    (k : wpList P ops Q rest (a.put o.dst (.bool (!b))) w) : wpList P ops Q (o :: rest) a w :=
  BigFrame.wpList_want hgd fun K hK => by
    unfold Oper.wp execOp
    simp only [ho, hx, hy, Sem.run_bind, run_eqGuard_agg w .neq t x y X Y E.g, run_neq_struct w t X Y, E.e, Result.andThen_ok, Sem.run_pure]
    exact hK _ _ k
theorem at_eq {P : Program} {ops : Array Oper} {rest : List Oper} {o : Oper} {a : Act} {w : World} {Q : Exit → Act → World → Prop} {t : TypeId} {X Y : Array Value} {b : Bool} (E : Eqs P t X Y b) (x y : Operand) (t' : TypeId) (hgd : Region.wanted o (yielded ops a.tmps) = true) (ho : o.op = .binOp .eql t x y t') (hx : a.eval x = .agg X) (hy : a.eval y = .agg Y)
    (k : wpList P ops Q rest (a.put o.dst (.bool b)) w) : wpList P ops Q (o :: rest) a w :=
  BigFrame.wpList_want hgd fun K hK => by
    unfold Oper.wp execOp
    simp only [ho, hx, hy, Sem.run_bind, run_eqGuard_agg w .eql t x y X Y E.g, run_eql_struct w t X Y, E.e, Result.andThen_ok, Sem.run_pure]
    exact hK _ _ k
end Go.Proofs.YthaijjehplomfaaDoor
