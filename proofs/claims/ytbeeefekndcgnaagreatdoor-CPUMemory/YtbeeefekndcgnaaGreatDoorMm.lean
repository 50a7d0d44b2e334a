/- A memory of bytes. -/
import Derived.Test.YtbeeefekndcgnaaGreatDoorLa
import Derived.Test.YtbeeefekndcgnaaGreatDoorRu
namespace Go.Proofs.YtbeeefekndcgnaaGreatDoor
open Go Go.RowKit
set_option linter.unusedVariables false
set_option maxHeartbeats 1000000
set_option maxRecDepth 20000

theorem infoB1 : (Tryz.prog.info? 5).map (fun i => (i.zero, i.size, i.bytes)) = some (some (.int .u8 0), 1, 1) := by kernel_rfl
theorem idxS {P : Program} {t e : TypeId} {s g off len cap : Nat} (ht : P.underlying t = some (.slice e)) (hs : (P.info? e).map (·.size) = some s) (k : IntKind) (i : Nat) (w : World) (h : i < len) :
   (Instr.indexAt t (.slice (some ⟨g, off, none⟩) len cap) (.int k (i : Int))).run P w = .ok (.pointer (some ⟨g, off + i * s, none⟩)) w := by
  have e2 : P.elem t = e := by unfold Program.elem; rw [ht]
  rw [run_indexAt_slice _ _ _ _ _ _ _ (by rw [e2, ht]), e2, if_pos ⟨by omega, by omega⟩]
  obtain ⟨inf, hi, rfl⟩ := Option.map_eq_some_iff.1 hs
  have e3 : P.cellsOf e = inf.size := by unfold Program.cellsOf; rw [hi]; rfl
  rw [run_sizeOf _ hi, e3]
  have e4 : (⟨g, off, none⟩ : Addr).add (i * inf.size) = ⟨g, off + i * inf.size, none⟩ := by
    unfold Addr.add
    split
    · rename_i h0; rw [h0]; rfl
    · rfl
  simp [e4]
/-- A block of bytes. -/
def Blk (x : World) (g len : Nat) (Y : Nat → Int) : Prop := ∃ cur, x.heap[g]? = some (.cells cur 5 (0, 0)) ∧ cur.size = len ∧ ∀ j, j < len → cur[j]? = some (.int .u8 (Y j))
theorem Blk.cell {x : World} {g len : Nat} {Y : Nat → Int} (h : Blk x g len Y) (j : Nat) (hj : j < len) : x.cell? ⟨g, j, none⟩ = some (.int .u8 (Y j)) := by
  obtain ⟨cur, h1, h2, h3⟩ := h
  rw [cell_heap h1]; exact h3 j hj
theorem Blk.frozen {x : World} {g len : Nat} {Y : Nat → Int} (h : Blk x g len Y) (j : Nat) : x.frozen? ⟨g, j, none⟩ = false := by
  obtain ⟨cur, h1, h2, h3⟩ := h
  exact frozen_heap h1 j
theorem Blk.lt {x : World} {g len : Nat} {Y : Nat → Int} (h : Blk x g len Y) : g < x.heap.size := by
  obtain ⟨cur, h1, h2, h3⟩ := h
  exact heap_lt h1
theorem Blk.same {x y : World} {g len : Nat} {Y : Nat → Int} (h : Blk x g len Y) (e : y.heap[g]? = x.heap[g]?) : Blk y g len Y := by
  obtain ⟨cur, h1, h2, h3⟩ := h
  exact ⟨cur, e.trans h1, h2, h3⟩
theorem Blk.below {x y : World} {g len : Nat} {Y : Nat → Int} (h : Blk x g len Y) (hb : Below x.heap.size x y) : Blk y g len Y := h.same (hb.block g h.lt)
theorem Blk.congr {x : World} {g len : Nat} {Y Z : Nat → Int} (h : Blk x g len Y) (e : ∀ j, j < len → Y j = Z j) : Blk x g len Z := by
  obtain ⟨cur, h1, h2, h3⟩ := h
  exact ⟨cur, h1, h2, fun j hj => by rw [h3 j hj, e j hj]⟩
theorem Blk.set {x : World} {g len : Nat} {Y : Nat → Int} (h : Blk x g len Y) (k : Nat) (hk : k < len) (b : Int) : Blk (x.setCell ⟨g, k, none⟩ (.int .u8 b)) g len (fun j => if j = k then b else Y j) := by
  obtain ⟨cur, h1, h2, h3⟩ := h
  refine ⟨_, heap_setCell_same x g k cur 5 (.int .u8 b) h1, by simpa using h2, fun j hj => ?_⟩
  by_cases e : j = k
  · subst e; simp [show j < cur.size by omega]
  · rw [Array.getElem?_setIfInBounds_ne (by omega), h3 j hj]; simp [e]
theorem made_blk (w : World) (n : Nat) : Blk (w.alloc (.cells (madeCells #[.int .u8 0] n) 5)) w.heap.size n (fun _ => 0) := by
  refine ⟨_, alloc_last' w _, by simp [size_madeCells], fun j hj => ?_⟩
  rw [Array.getElem?_eq_getElem (by simp [size_madeCells]; omega)]
  simp [madeCells, Nat.mod_one]
/-- What a call may have done: new blocks, and the bytes of one block. -/
structure Upd (g : Nat) (w w' : World) : Prop where
  os : w'.os = w.os
  tape : w'.tape = w.tape
  output : w'.output = w.output
  size : w.heap.size ≤ w'.heap.size
  block : ∀ k, k < w.heap.size → k ≠ g → w'.heap[k]? = w.heap[k]?
theorem Upd.refl (g : Nat) (w : World) : Upd g w w := ⟨rfl, rfl, rfl, Nat.le_refl _, fun _ _ _ => rfl⟩
theorem Upd.trans {g : Nat} {a b c : World} (h : Upd g a b) (k : Upd g b c) : Upd g a c :=
  ⟨k.os.trans h.os, k.tape.trans h.tape, k.output.trans h.output, Nat.le_trans h.size k.size, fun j hj hF => (k.block j (Nat.lt_of_lt_of_le hj h.size) hF).trans (h.block j hj hF)⟩
theorem Upd.of_below {g : Nat} {a b : World} (h : Below a.heap.size a b) : Upd g a b := ⟨h.os, h.tape, h.output, h.size, fun j hj _ => h.block j hj⟩
theorem Upd.below {g : Nat} {a b : World} {B : Nat} (h : Upd g a b) (hB : B ≤ a.heap.size) (hg : B ≤ g) : Below B a b :=
  ⟨h.os, h.tape, h.output, h.size, fun j hj => h.block j (Nat.lt_of_lt_of_le hj hB) (by omega)⟩
theorem Upd.set {g j : Nat} {u : Value} (w : World) : Upd g w (w.setCell ⟨g, j, none⟩ u) :=
  ⟨rfl, rfl, rfl, by simp, fun k _ hk => heap_setCell_other w ⟨g, j, none⟩ k u hk⟩
/-- Boxes beside a memory. -/
structure Fb (w : World) (l : List (Nat × Array Value × TypeId)) (g : Nat) (Y : Nat → Int) (y : World) : Prop where
  get : ∀ (i b : Nat) (cs : Array Value) (t : TypeId), l[i]? = some (b, cs, t) → y.heap[b]? = some (.cells cs t (0, 0))
  ge : ∀ (i b : Nat) (cs : Array Value) (t : TypeId), l[i]? = some (b, cs, t) → w.heap.size ≤ b
  ne : ∀ (i j b : Nat) (cs cs' : Array Value) (t t' : TypeId), l[i]? = some (b, cs, t) → l[j]? = some (b, cs', t') → i = j
  mem : Blk y g 65536 Y
  gl : ∀ (i b : Nat) (cs : Array Value) (t : TypeId), l[i]? = some (b, cs, t) → b ≠ g
  upd : Upd g w y
theorem Fb.nil {w : World} {g : Nat} {Y : Nat → Int} (h : Blk w g 65536 Y) : Fb w [] g Y w := ⟨fun _ _ _ _ h => by simp at h, fun _ _ _ _ h => by simp at h, fun _ _ _ _ _ _ _ h => by simp at h, h, fun _ _ _ _ h => by simp at h, Upd.refl _ _⟩
theorem Fb.below {w : World} {l : List (Nat × Array Value × TypeId)} {g : Nat} {Y : Nat → Int} {y y' : World} (h : Fb w l g Y y) (hb : Below y.heap.size y y') : Fb w l g Y y' :=
  ⟨fun i b cs t e => (hb.block b (heap_lt (h.get i b cs t e))).trans (h.get i b cs t e), h.ge, h.ne, h.mem.below hb, h.gl, h.upd.trans (Upd.of_below hb)⟩
theorem Fb.new {w : World} {l : List (Nat × Array Value × TypeId)} {g : Nat} {Y : Nat → Int} {y : World} (h : Fb w l g Y y) (cs : Array Value) (t : TypeId) : Fb w (l ++ [(y.heap.size, cs, t)]) g Y (y.alloc (.cells cs t)) := by
  have hb := h.below ((Below.refl y.heap.size y).alloc (Nat.le_refl _) (.cells cs t))
  have key : ∀ (i b : Nat) (cs' : Array Value) (t' : TypeId), (l ++ [(y.heap.size, cs, t)])[i]? = some (b, cs', t') → l[i]? = some (b, cs', t') ∧ i < l.length ∨ i = l.length ∧ b = y.heap.size ∧ cs' = cs ∧ t' = t := by
    intro i b cs' t' e
    rcases Nat.lt_or_ge i l.length with hi | hi
    · rw [List.getElem?_append_left hi] at e; exact .inl ⟨e, hi⟩
    · rw [List.getElem?_append_right hi] at e
      rcases Nat.eq_or_lt_of_le hi with h0 | h0
      · rw [← h0, Nat.sub_self] at e
        simp at e
        exact .inr ⟨h0.symm, e.1.symm, e.2.1.symm, e.2.2.symm⟩
      · rw [List.getElem?_eq_none (by simp; omega)] at e; cases e
  refine ⟨fun i b cs' t' e => ?_, fun i b cs' t' e => ?_, fun i j b c1 c2 t1 t2 e1 e2 => ?_, hb.mem, fun i b cs' t' e => ?_, hb.upd⟩
  · rcases key i b cs' t' e with ⟨k, _⟩ | ⟨_, rfl, rfl, rfl⟩
    · exact hb.get i b cs' t' k
    · exact alloc_last' y _
  · rcases key i b cs' t' e with ⟨k, _⟩ | ⟨_, rfl, rfl, rfl⟩
    · exact h.ge i b cs' t' k
    · exact h.upd.size
  · rcases key i b c1 t1 e1 with ⟨k1, l1⟩ | ⟨k1, kb, _⟩ <;> rcases key j b c2 t2 e2 with ⟨k2, l2⟩ | ⟨k2, kb2, _⟩
    · exact h.ne i j b c1 c2 t1 t2 k1 k2
    · exact absurd (heap_lt (h.get i b c1 t1 k1)) (by omega)
    · exact absurd (heap_lt (h.get j b c2 t2 k2)) (by omega)
    · omega
  · rcases key i b cs' t' e with ⟨k, _⟩ | ⟨_, rfl, rfl, rfl⟩
    · exact h.gl i b cs' t' k
    · have := h.mem.lt; omega
theorem Fb.put {w : World} {l : List (Nat × Array Value × TypeId)} {g : Nat} {Y : Nat → Int} {y y' : World} (h : Fb w l g Y y) (i b : Nat) (cs cs' : Array Value) (t : TypeId) (hi : l[i]? = some (b, cs, t)) (k : y'.heap[b]? = some (.cells cs' t (0, 0)) ∧ (∀ B, B ≤ b → Below B y y') ∧ ∀ q, q ≠ b → y'.heap[q]? = y.heap[q]?) : Fb w (l.set i (b, cs', t)) g Y y' := by
  have key : ∀ (j b' : Nat) (c1 : Array Value) (t1 : TypeId), (l.set i (b, cs', t))[j]? = some (b', c1, t1) → (j = i ∧ b' = b ∧ c1 = cs' ∧ t1 = t) ∨ (j ≠ i ∧ l[j]? = some (b', c1, t1)) := by
    intro j b' c1 t1 e
    by_cases hj : i = j
    · subst hj
      rw [List.getElem?_set] at e
      have hl : i < l.length := (List.getElem?_eq_some_iff.1 hi).1
      simp [hl] at e
      exact .inl ⟨rfl, e.1.symm, e.2.1.symm, e.2.2.symm⟩
    · rw [List.getElem?_set_ne hj] at e; exact .inr ⟨fun x => hj x.symm, e⟩
  have bb := k.2.1 b (Nat.le_refl _)
  refine ⟨fun j b' c1 t1 e => ?_, fun j b' c1 t1 e => ?_, fun j j' b' c1 c2 t1 t2 e1 e2 => ?_, h.mem.same (k.2.2 g (fun x => h.gl i b cs t hi x.symm)), fun j b' c1 t1 e => ?_, ?_⟩
  · rcases key j b' c1 t1 e with ⟨_, rfl, rfl, rfl⟩ | ⟨hj, e'⟩
    · exact k.1
    · exact (k.2.2 b' (fun x => hj (h.ne j i b c1 cs t1 t (x ▸ e') hi))).trans (h.get j b' c1 t1 e')
  · rcases key j b' c1 t1 e with ⟨_, rfl, rfl, rfl⟩ | ⟨_, e'⟩
    · exact h.ge i b' cs t1 hi
    · exact h.ge j b' c1 t1 e'
  · rcases key j b' c1 t1 e1 with ⟨rfl, rfl, _⟩ | ⟨hj, e1'⟩ <;> rcases key j' b' c2 t2 e2 with ⟨rfl, hb2, _⟩ | ⟨hj', e2'⟩
    · rfl
    · exact h.ne j j' b' cs c2 t t2 hi e2'
    · subst hb2; exact h.ne j j' b' c1 cs t1 t e1' hi
    · exact h.ne j j' b' c1 c2 t1 t2 e1' e2'
  · rcases key j b' c1 t1 e with ⟨_, rfl, rfl, rfl⟩ | ⟨_, e'⟩
    · exact h.gl i b' cs t1 hi
    · exact h.gl j b' c1 t1 e'
  · have hge := h.ge i b cs t hi
    exact ⟨bb.os.trans h.upd.os, bb.tape.trans h.upd.tape, bb.output.trans h.upd.output, Nat.le_trans h.upd.size bb.size, fun q hq hg => (k.2.2 q (by omega)).trans (h.upd.block q hq hg)⟩
theorem Fb.setCell {w : World} {l : List (Nat × Array Value × TypeId)} {g : Nat} {Y : Nat → Int} {y : World} (h : Fb w l g Y y) (i b : Nat) (cs cs' : Array Value) (t : TypeId) (hi : l[i]? = some (b, cs, t)) (j : Nat) (v : Value) (hv : cs.setIfInBounds j v = cs') : Fb w (l.set i (b, cs', t)) g Y (y.setCell ⟨b, j, none⟩ v) := by
  refine h.put i b cs cs' t hi ⟨?_, fun B hB => (Below.refl B y).setCell (p := ⟨b, j, none⟩) hB v, fun q hq => heap_setCell_other y ⟨b, j, none⟩ q v hq⟩
  have := heap_setCell_same y b j cs t v (h.get i b cs t hi)
  rw [hv] at this
  exact this
/-- A byte of the memory is set. -/
theorem Fb.byte {w : World} {l : List (Nat × Array Value × TypeId)} {g : Nat} {Y : Nat → Int} {y : World} (h : Fb w l g Y y) (k : Nat) (hk : k < 65536) (b : Int) : Fb w l g (fun j => if j = k then b else Y j) (y.setCell ⟨g, k, none⟩ (.int .u8 b)) :=
  ⟨fun i b' cs t e => (heap_setCell_other y ⟨g, k, none⟩ b' _ (h.gl i b' cs t e)).trans (h.get i b' cs t e), h.ge, h.ne, h.mem.set k hk b, h.gl, h.upd.trans (Upd.set y)⟩
end Go.Proofs.YtbeeefekndcgnaaGreatDoor
