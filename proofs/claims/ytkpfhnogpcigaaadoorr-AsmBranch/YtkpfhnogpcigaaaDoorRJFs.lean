/- Blocks that are put together of bytes: each with a row of its own. -/
import Derived.Test.YtkpfhnogpcigaaaDoorRJFg
import Derived.Test.YtkpfhnogpcigaaaDoorRJEy
import Derived.Deep.DeepAppendRoom
import Derived.ArgAppend
import Derived.Test.YtkpfhnogpcigaaaDoorRJFo
namespace Go.Proofs.YtkpfhnogpcigaaaDoorR
open Go Go.RowKit
set_option linter.unusedVariables false
set_option maxHeartbeats 3000000
set_option maxRecDepth 20000

section
variable {α : Type} {T t : TypeId} {s bts : Nat} {c : α → List Value}
/-- An append of several values, as a run: where the new row lies, too. -/
theorem run_appN (K : KdL T t s bts c) (w : World) (B : Nat) (v : Value) (l us : List α) (ty : TypeId) (hown : OwnL t s c B w v l) (p : Option Addr) (n cm : Nat) (hm : us.length = n) (hu : LiesL s c w p us) (h0 : 0 < n) (hn : l.length + n ≤ 4000000000) (hB : B ≤ w.heap.size) :
    ∃ v' w', (Builtin.append_ #[T, T] ty #[v, .slice p n cm]).run Tryd.prog w = .ok v' w' ∧ OwnL t s c B w' v' (l ++ us) ∧ w.grownBy w' v.ownBlock ∧ ∀ g, v'.ownBlock = some g → v.ownBlock = some g ∨ w.heap.size ≤ g := by
  subst hm
  have hor := hown.2
  rcases hor with ⟨rfl, hn0⟩ | ⟨g, cap, cur, rfl, hbg, hg, hnc, hcm, hcs, htake⟩
  · have hl0 : l = [] := List.eq_nil_of_length_eq_zero hn0
    subst hl0
    obtain ⟨v', w', h1, h2, h3⟩ := run_appM K w w.heap.size (.slice none 0 0) [] us ty (OwnL.nil _ _) p us.length cm rfl hu hn (Nat.le_refl _)
    exact ⟨v', w', h1, h2.weak hB, h3, fun g hg => .inr (h2.lt g hg).1⟩
  · obtain ⟨g0, o0, rfl, _⟩ := hu 0 _ (List.getElem?_eq_getElem h0)
    obtain ⟨i, z, hi, hz0, hz1, hz2, hz3⟩ := K.i
    have hc : ∀ j u', (rowL c us)[j]? = some u' → w.cell? ((⟨g0, o0, none⟩ : Addr).add j) = some u' := fun j u' h => by
      rw [Addr.add_lit]
      exact hu.cells K.len K.s0 j u' h
    by_cases hr : l.length + us.length ≤ cap
    · obtain ⟨w', h1, h2, h3⟩ := run_append_own_spare (P := Tryd.prog) w B T ty t i s K.u hi hz1 g l.length cap (rowL c l) hown ⟨g0, o0, none⟩ us.length cm (rowL c us) (rowL_len K.len us) hc (rowL_cell K.one us) hr
      refine ⟨_, w', h1, ?_, h3, fun g' h => .inl h⟩
      unfold OwnL
      rw [rowL_app, List.length_append]
      exact h2
    · have hcells := World.ownsRow.cells (g := g) hown rfl
      obtain ⟨v', w', h1, h2, h3⟩ := run_append_arg_grows (P := Tryd.prog) w T ty t i z s bts K.u hi hz0 hz1 hz2 hz3 K.s0 ⟨g, 0, none⟩ l.length cap (rowL c l) (rowL_len K.len l) hcells ⟨g0, o0, none⟩ us.length cm (rowL c us) (rowL_len K.len us) hc (by omega) (by unfold maxLen; omega) (Nat.le_trans (Nat.mul_le_mul (show l.length + us.length ≤ 4000000000 by omega) K.b0) (by decide))
      have h4 : OwnL t s c w.heap.size w' v' (l ++ us) := by
        unfold OwnL
        rw [rowL_app, List.length_append]
        exact h2
      exact ⟨v', w', h1, h4.weak hB, ⟨h3.os, h3.tape, h3.output, h3.size, fun k hk _ => h3.block k hk (by simp)⟩, fun g' hg' => .inr (h4.lt g' hg').1⟩
end
/-- The block of a row of bytes. -/
def ownX (X : Bb) : Option Nat := (Value.slice X.1.sp X.1.m X.1.cap).ownBlock
/-- Blocks that the call has made, each with its own bytes. -/
structure Bls (y : World) (v : Value) (XB : List Bb) (z : World) : Prop where
  low : Below y.heap.size y z
  o : OwnL 42 2 cK y.heap.size z v (XB.map (·.1))
  r : ∀ X ∈ XB, OwnL 5 1 cU y.heap.size z (.slice X.1.sp X.1.m X.1.cap) X.2 ∧ X.2.length = X.1.m
  ne : ∀ (i j : Nat) (X Y : Bb) (g : Nat), XB[i]? = some X → XB[j]? = some Y → ownX X = some g → ownX Y = some g → i = j
theorem Bls.nil (y : World) : Bls y (.slice none 0 0) [] y := ⟨Below.refl _ _, OwnL.nil _ _, fun X h => (by cases h), fun i j X Y g h => (by simp at h)⟩
theorem Bls.below {y : World} {v : Value} {XB : List Bb} {z z' : World} (h : Bls y v XB z) (k : Below z.heap.size z z') : Bls y v XB z' := ⟨of_below h.low k, h.o.below k, fun X hX => ⟨(h.r X hX).1.below k, (h.r X hX).2⟩, h.ne⟩
/-- A new block, without bytes. -/
theorem Bls.push {y : World} {v v' : Value} {XB : List Bb} {z z1 : World} {o : Obj} {a : Int} (h : Bls y v XB z) (A : App1L 42 2 cK y.heap.size v (XB.map (·.1)) ⟨a, none, 0, 0⟩ v' (z.alloc o) z1) : Bls y v' (XB ++ [(⟨a, none, 0, 0⟩, [])]) z1 := by
  have keep : ∀ (g : Nat) (cs : Array Value), Bx z g cs 5 → Bx z1 g cs 5 := fun g cs hb => by
    have h1 : Bx (z.alloc o) g cs 5 := hb.below (below1 z o)
    refine (A.cu.blk g (heap_lt h1) fun j hF => ?_).trans h1
    obtain ⟨c9, h9⟩ := h.o.ty g hF.1
    have := hb.symm.trans h9
    simp at this
  have kr : ∀ (u : Value) (L : List UInt8), OwnL 5 1 cU y.heap.size z u L → OwnL 5 1 cU y.heap.size z1 u L := fun u L hu => hu.keepB fun g e => by
    obtain ⟨c9, h9⟩ := hu.ty g e
    exact (keep g c9 h9).trans h9.symm
  refine ⟨(h.low.alloc h.low.size o).trans A.cu.low, by rw [List.map_append]; exact A.own, fun X hX => ?_, fun i j X Y g hi hj ei ej => ?_⟩
  · rcases List.mem_append.1 hX with hX | hX
    · exact ⟨kr _ _ (h.r X hX).1, (h.r X hX).2⟩
    · rw [List.mem_singleton.1 hX]
      exact ⟨OwnL.nil _ _, rfl⟩
  · have key : ∀ (i : Nat) (X : Bb), (XB ++ [((⟨a, none, 0, 0⟩ : Bk), ([] : List UInt8))])[i]? = some X → ownX X = some g → XB[i]? = some X := fun i X hi ei => by
      rcases Nat.lt_or_ge i XB.length with hlt | hge
      · rw [List.getElem?_append_left hlt] at hi; exact hi
      · rw [List.getElem?_append_right hge] at hi
        exfalso
        have : i - XB.length = 0 := by
          have := (List.getElem?_eq_some_iff.1 hi).1
          simp at this
          omega
        rw [this] at hi
        simp at hi
        rw [← hi] at ei
        simp [ownX, Value.ownBlock] at ei
    exact h.ne i j X Y g (key i X hi ei) (key j Y hj ej) ei ej
/-- One cell of a row of blocks. -/
theorem own_cell1 {B : Nat} {w : World} {g n cap : Nat} {l : List Bk} (h : OwnL 42 2 cK B w (.slice (some ⟨g, 0, none⟩) n cap) l) (k : Nat) (b : Bk) (hk : l[k]? = some b) (sp : Option Addr) (m cp : Nat) :
    w.cell? ⟨g, k * 2 + 1, none⟩ = some (.slice b.sp b.m b.cap) ∧ w.frozen? ⟨g, k * 2 + 1, none⟩ = false ∧ B ≤ g ∧ OwnL 42 2 cK B (w.setCell ⟨g, k * 2 + 1, none⟩ (.slice sp m cp)) (.slice (some ⟨g, 0, none⟩) n cap) (l.set k ⟨b.a, sp, m, cp⟩) := by
  have hkl := (List.getElem?_eq_some_iff.1 hk).1
  obtain ⟨hl, hor⟩ := h
  rcases hor with ⟨e, _⟩ | ⟨g', cap', cur, hv, hbg, hg, hnc, hcm, hcs, htake⟩
  · cases e
  · cases hv
    have hlen := rowL_len kBk.len l
    have hat : (rowL cK l)[k * 2 + 1]? = some (.slice b.sp b.m b.cap) := by
      rw [rowL_at kBk.len l k 1 b hk (by decide)]
      rfl
    have hcur : cur[k * 2 + 1]? = some (.slice b.sp b.m b.cap) := by
      have h9 : (cur.toList.take (l.length * 2))[k * 2 + 1]? = some (.slice b.sp b.m b.cap) := by rw [htake]; exact hat
      rw [List.getElem?_take] at h9
      split at h9
      · simpa using h9
      · cases h9
    refine ⟨(cell_heap hg _).trans hcur, frozen_heap hg _, hbg, by rw [rowL_len kBk.len], .inr ⟨g, cap, cur.setIfInBounds (k * 2 + 1) (.slice sp m cp), by rw [List.length_set], hbg, heap_setCell_same w g (k * 2 + 1) cur _ _ hg, by rw [List.length_set]; exact hnc, hcm, by simpa using hcs, ?_⟩⟩
    rw [List.length_set, rowL_set kBk.len l k _ hkl, Array.toList_setIfInBounds, ← htake]
    apply List.ext_getElem?
    intro j
    have hcl : (cur.toList.take (l.length * 2)).length = l.length * 2 := by rw [htake, hlen]
    rw [List.getElem?_take, List.getElem?_set, spliceL_at _ _ _ (by rw [kBk.len, hcl]; omega), kBk.len, List.getElem?_take]
    have h0 : cur.toList[k * 2]? = some (.int .i64 b.a) := by
      have h9 : (cur.toList.take (l.length * 2))[k * 2]? = some (.int .i64 b.a) := by
        rw [htake]
        have := rowL_at kBk.len l k 0 b hk (by decide)
        rw [Nat.add_zero] at this
        rw [this]
        rfl
      rw [List.getElem?_take, if_pos (by omega)] at h9
      exact h9
    have hsz : k * 2 + 1 < cur.toList.length := by
      have := (Array.getElem?_eq_some_iff.1 hcur).1
      simpa using this
    by_cases h1 : j < l.length * 2
    · rw [if_pos h1]
      by_cases h2 : k * 2 + 1 = j
      · subst h2
        rw [if_pos rfl, if_pos hsz, if_pos ⟨by omega, by omega⟩, show k * 2 + 1 - k * 2 = 1 by omega]
        rfl
      · rw [if_neg h2]
        by_cases h3 : k * 2 = j
        · subst h3
          rw [if_pos ⟨by omega, by omega⟩, Nat.sub_self, h0]
          rfl
        · rw [if_neg (by omega), if_pos h1]
    · rw [if_neg h1, if_neg (by omega), if_neg h1]
/-- Bytes put behind those of the last block. -/
theorem Bls.grow {y : World} {g n cap : Nat} {pre : List Bb} {X : Bb} {z z1 : World} {sp : Option Addr} {m cp : Nat} {L : List UInt8} (h : Bls y (.slice (some ⟨g, 0, none⟩) n cap) (pre ++ [X]) z) (h1 : OwnL 5 1 cU y.heap.size z1 (.slice sp m cp) (X.2 ++ L)) (hg : z.grownBy z1 (ownX X)) (hn : ∀ g', (Value.slice sp m cp).ownBlock = some g' → ownX X = some g' ∨ z.heap.size ≤ g') (hm : (X.2 ++ L).length = m) :
    z1.cell? ⟨g, pre.length * 2 + 1, none⟩ = some (.slice X.1.sp X.1.m X.1.cap) ∧ z1.frozen? ⟨g, pre.length * 2 + 1, none⟩ = false ∧ Bls y (.slice (some ⟨g, 0, none⟩) n cap) (pre ++ [(⟨X.1.a, sp, m, cp⟩, X.2 ++ L)]) (z1.setCell ⟨g, pre.length * 2 + 1, none⟩ (.slice sp m cp)) := by
  have hX := h.r X (by simp)
  have o1 : OwnL 42 2 cK y.heap.size z1 (.slice (some ⟨g, 0, none⟩) n cap) ((pre ++ [X]).map (·.1)) := own_grown hX.1 h.o (by decide) hg
  have hk : ((pre ++ [X]).map (·.1))[pre.length]? = some X.1 := by simp
  obtain ⟨q1, q2, q3, q4⟩ := own_cell1 o1 pre.length X.1 hk sp m cp
  obtain ⟨cs, hb⟩ := o1.ty g rfl
  have hlow : Below y.heap.size y z1 := ⟨hg.os.trans h.low.os, hg.tape.trans h.low.tape, hg.output.trans h.low.output, Nat.le_trans h.low.size hg.size, fun k hk => (hg.block k (Nat.lt_of_lt_of_le hk h.low.size) fun e => by have := (hX.1.lt k e.symm).1; omega).trans (h.low.block k hk)⟩
  have go : ∀ q, q ≠ g → (z1.setCell ⟨g, pre.length * 2 + 1, none⟩ (.slice sp m cp)).heap[q]? = z1.heap[q]? := fun q hq => heap_setCell_other z1 ⟨g, pre.length * 2 + 1, none⟩ q _ hq
  have kr : ∀ (u : Value) (L : List UInt8), OwnL 5 1 cU y.heap.size z1 u L → OwnL 5 1 cU y.heap.size (z1.setCell ⟨g, pre.length * 2 + 1, none⟩ (.slice sp m cp)) u L := fun u L hu => own_other hb (by decide) go hu
  refine ⟨q1, q2, hlow.setCell (p := ⟨g, pre.length * 2 + 1, none⟩) q3 _, ?_, fun Y hY => ?_, fun i j Y Z g' hi hj ei ej => ?_⟩
  · have e : ((pre ++ [X]).map (·.1)).set pre.length ⟨X.1.a, sp, m, cp⟩ = (pre ++ [((⟨X.1.a, sp, m, cp⟩ : Bk), X.2 ++ L)]).map (·.1) := by
      rw [List.map_append, List.map_append, List.set_append_right _ _ (by rw [List.length_map]; exact Nat.le_refl _)]
      simp
    rw [← e]
    exact q4
  · rcases List.mem_append.1 hY with hY | hY
    · obtain ⟨i, hi, ei⟩ := List.getElem_of_mem hY
      have hY2 := h.r Y (by simp [hY])
      refine ⟨kr _ _ (hY2.1.keepB fun g' e => hg.block g' (hY2.1.lt g' e).2 fun e9 => ?_), hY2.2⟩
      have := h.ne i pre.length Y X g' (by rw [List.getElem?_append_left hi, List.getElem?_eq_getElem hi, ei]) (by simp) e e9.symm
      omega
    · rw [List.mem_singleton.1 hY]
      exact ⟨kr _ _ h1, hm⟩
  · have key : ∀ (i : Nat) (Y : Bb), (pre ++ [((⟨X.1.a, sp, m, cp⟩ : Bk), X.2 ++ L)])[i]? = some Y → ownX Y = some g' → (i = pre.length ∧ (ownX X = some g' ∨ z.heap.size ≤ g')) ∨ (i < pre.length ∧ (pre ++ [X])[i]? = some Y ∧ g' < z.heap.size) := fun i Y hi ei => by
      rcases Nat.lt_or_ge i pre.length with hlt | hge
      · rw [List.getElem?_append_left hlt] at hi
        refine .inr ⟨hlt, by rw [List.getElem?_append_left hlt]; exact hi, ?_⟩
        exact ((h.r Y (by simp [List.mem_of_getElem? hi])).1.lt g' ei).2
      · have e0 : i = pre.length := by
          have := (List.getElem?_eq_some_iff.1 hi).1
          simp at this
          omega
        subst e0
        rw [List.getElem?_append_right (Nat.le_refl _), Nat.sub_self] at hi
        simp at hi
        rw [← hi] at ei
        exact .inl ⟨rfl, hn g' ei⟩
    rcases key i Y hi ei with ⟨e1, e2⟩ | ⟨e1, e2, e3⟩ <;> rcases key j Z hj ej with ⟨f1, f2⟩ | ⟨f1, f2, f3⟩
    · omega
    · rcases e2 with e2 | e2
      · have := h.ne pre.length j X Z g' (by simp) f2 e2 ej
        omega
      · omega
    · rcases f2 with f2 | f2
      · have := h.ne i pre.length Y X g' e2 (by simp) ei f2
        omega
      · omega
    · exact h.ne i j Y Z g' e2 f2 ei ej
end Go.Proofs.YtkpfhnogpcigaaaDoorR
/- The bytes of the marks, in blocks. -/
namespace Go.Proofs.YtkpfhnogpcigaaaDoorR
open Go Go.RowKit
set_option linter.unusedVariables false
set_option maxHeartbeats 3000000
set_option maxRecDepth 20000

/-- Bytes behind the last row. -/
def addL : List (Int × List UInt8) → List UInt8 → List (Int × List UInt8)
  | [], _ => []
  | [x], s => [(x.1, x.2 ++ s)]
  | x :: y :: r, s => x :: addL (y :: r) s
theorem addL_app (x : Int × List UInt8) (s : List UInt8) : ∀ pre : List (Int × List UInt8), addL (pre ++ [x]) s = pre ++ [(x.1, x.2 ++ s)]
  | [] => rfl
  | [y] => rfl
  | y :: y' :: r => by
    have := addL_app x s (y' :: r)
    simp only [List.cons_append] at this ⊢
    rw [addL, this]
def segM (Mm : List UInt8) (m : Mk) : List UInt8 := (Mm.drop m.a.toNat).take m.n.toNat
def bst (Mm : List UInt8) (acc : List (Int × List UInt8)) (e : Int) (m : Mk) : List (Int × List UInt8) := addL (if m.a = e then acc else acc ++ [(m.a, [])]) (segM Mm m)
def blksF (Mm : List UInt8) : List (Int × List UInt8) → Int → List Mk → List (Int × List UInt8)
  | acc, _, [] => acc
  | acc, e, m :: r => blksF Mm (bst Mm acc e m) (m.a + m.n) r
/-- Marks that lie among the addresses. -/
def MkIn (m : Mk) : Prop := 0 ≤ m.a ∧ 1 ≤ m.n ∧ m.a + m.n ≤ 65536
theorem own_some {α : Type} {t : TypeId} {s : Nat} {c : α → List Value} {B : Nat} {w : World} {v : Value} {l : List α} (h : OwnL t s c B w v l) (hl : l ≠ []) : ∃ g cap, v = .slice (some ⟨g, 0, none⟩) l.length cap := by
  rcases h.2 with ⟨_, h0⟩ | ⟨g, cap, cur, rfl, _⟩
  · exact absurd (List.length_eq_zero_iff.1 h0) hl
  · exact ⟨g, cap, rfl⟩
theorem app1_bx {α : Type} {t t' : TypeId} {s : Nat} {c : α → List Value} {B : Nat} {v v' : Value} {l : List α} {x : α} {z z1 : World} {o : Obj} (h : OwnL t s c B z v l) (A : App1L t s c B v l x v' (z.alloc o) z1) {g : Nat} {cs : Array Value} (hne : t ≠ t') (hb : Bx z g cs t') : Bx z1 g cs t' := by
  have h1 : Bx (z.alloc o) g cs t' := hb.below (below1 z o)
  refine (A.cu.blk g (heap_lt h1) fun j hF => ?_).trans h1
  obtain ⟨c9, h9⟩ := h.ty g hF.1
  have := hb.symm.trans h9
  simp at this
  exact absurd this.2.symm hne
theorem slSeg (g : Nat) (a e : Int) (ha : 0 ≤ a) (h : a < e) (he : e ≤ 65536) : ∃ cp, ∀ v, (Instr.sliceAt 33 (.slice (some ⟨g, 0, none⟩) 65536 65536) (some (.int .i64 a)) (some (.int .i64 e)) none).run Tryd.prog v = .ok (.slice (some ⟨g, a.toNat, none⟩) (e - a).toNat cp) v := by
  obtain ⟨sp1, h1, h2⟩ := slB2 g 0 65536 65536 a.toNat e.toNat a e (by omega) (by omega) (by omega) (by omega) (by omega)
  have e1 := h2 (by omega)
  subst e1
  refine ⟨65536 - a.toNat, fun v => ?_⟩
  rw [h1 v, Nat.zero_add, show e.toNat - a.toNat = (e - a).toNat by omega]
theorem lies_seg {z : World} {g : Nat} {Mm : List UInt8} {t : TypeId} (h : Bx z g (rU Mm) t) (a k : Nat) : LiesL 1 cU z (some ⟨g, a, none⟩) ((Mm.drop a).take k) := fun j b hj => by
  refine ⟨g, a, rfl, fun i v hv => ?_⟩
  rw [List.getElem?_take] at hj
  split at hj
  · rw [List.getElem?_drop] at hj
    have hi : i = 0 := by
      have := (List.getElem?_eq_some_iff.1 hv).1
      simp [cU] at this
      exact this
    subst hi
    simp [cU] at hv
    subst hv
    rw [Nat.mul_one, Nat.add_zero]
    exact h.c _ _ (rU_get _ _ _ hj)
  · cases hj
theorem bls_box {y : World} {v : Value} {XB : List Bb} {z1 z2 : World} {bm : Nat} {cs cs' : Array Value} (h : Bls y v XB z1) (hb : Bx z1 bm cs 72) (hB : y.heap.size ≤ bm) (hw : Bx z2 bm cs' 72 ∧ (∀ B, B ≤ bm → Below B z1 z2) ∧ ∀ q, q ≠ bm → z2.heap[q]? = z1.heap[q]?) : Bls y v XB z2 :=
  ⟨h.low.trans (hw.2.1 _ hB), own_other hb (by decide) hw.2.2 h.o, fun X hX => ⟨own_other hb (by decide) hw.2.2 (h.r X hX).1, (h.r X hX).2⟩, h.ne⟩
/-- What blocks answers. -/
def BkE (y : World) (Bl : List (Int × List UInt8)) (e : Ending) (z : World) : Prop := ∃ v XB, e = .returned v ∧ Hid (Bls y v XB z ∧ plB XB = Bl)
theorem blocks_of (y : World) (q : Nu) (p : Nat) (vl : Value) (Mm : List UInt8) (hM : Mm.length = 65536) (hs : Hid (Bx y q.s (sC q p vl) 85)) (hb : Hid (Bx y q.b (rU Mm) 5)) (sp : Option Addr) (cap : Nat) (M : List Mk) (hl : Hid (LiesL 3 cM y sp M)) (hi : Hid (∀ m ∈ M, MkIn m)) (hn : M.length ≤ 65536) :
    Calls Tryd.prog 52 #[.pointer (some ⟨q.s, 0, none⟩), .slice sp M.length cap] y (BkE y (blksF Mm [] (-1) M)) := by
  obtain ⟨n, hn'⟩ : ∃ n, M.length = n := ⟨_, rfl⟩
  have hnn : Hid (M.length = n ∧ Mm.length = 65536) := ⟨hn', hM⟩
  rw [hn'] at hn ⊢
  have ni : (n : Int) ≤ 65536 := by omega
  have hfin : Hid (∀ v XB z, Bls y v XB z → plB XB = blksF Mm [] (-1) M → BkE y (blksF Mm [] (-1) M) (.returned v) z) := fun v XB z h1 h2 => ⟨v, XB, rfl, h1, h2⟩
  generalize BkE y (blksF Mm [] (-1) M) = Fin at hfin ⊢
  have K0 : Hid (Bls y (.slice none 0 0) [] y) := Bls.nil y
  clear hn hn' hM
  go_enter Tryd.func52, Tryd.ntmps52
  go_wp2
  go_loopw [5, 6, 12] (fun t5 t6 t12 wz => ∃ (i : Nat) (sb : Option Addr) (cb : Nat) (XB : List Bb) (e : Int) (z : World), z = wz ∧ t5 = .slice sb XB.length cb ∧ t6 = .int .i64 e ∧ t12 = .int .i64 (i : Int) ∧ Hid (i ≤ n ∧ XB.length ≤ i ∧ (XB = [] → e = -1) ∧ -1 ≤ e ∧ e ≤ 65536 ∧ (∀ pre X, XB = pre ++ [X] → X.1.a + (X.2.length : Int) = e ∧ 0 ≤ X.1.a) ∧ blksF Mm (plB XB) e (M.drop i) = blksF Mm [] (-1) M) ∧ Hid (Bls y (.slice sb XB.length cb) XB z)) (fun _ _ t12 _ => (n - intOf t12).toNat)
  case atStart => exact ⟨0, _, _, [], -1, _, rfl, rfl, rfl, rfl, ⟨Nat.zero_le _, Nat.zero_le _, fun _ => rfl, by decide, by decide, fun pre X h => absurd h (by simp), rfl⟩, K0⟩
  case round =>
    obtain ⟨i, sb, cb, XB, e, z, rfl, rfl, rfl, rfl, J, K⟩ := hrel
    clear K0
    by_cases hlt : i < n
    · obtain ⟨m, hx⟩ : ∃ m, M[i]? = some m := ⟨_, List.getElem?_eq_getElem (by rw [hnn.out.1]; exact hlt)⟩
      obtain ⟨m0, m1, m2⟩ := hi.out m (List.mem_of_getElem? hx)
      obtain ⟨gm, om, rfl, hc⟩ := hl.out i m hx
      have hc' : Hid (z.rangeAt gm (om + i * 3) (k3 m).toList) := range_keep hc K.out.low
      have hd : Hid (M.drop i = m :: M.drop (i + 1)) := by
        obtain ⟨h1, e1⟩ := List.getElem?_eq_some_iff.1 hx
        show _ = _
        rw [List.drop_eq_getElem_cons h1, e1]
      have ij := fun w => idxP (P := Tryd.prog) (g := gm) (off := om) (len := n) (cap := cap) Tryd.underlying23 (s := 3) (by kernel_rfl) .i64 i w hlt
      have hii : (i : Int) < n := by omega
      have hlt' : Hid (i < n) := hlt
      have wi : IntKind.i64.wrap ((i : Int) + 1) = (i : Int) + 1 := by rw [IntKind.wrap_i64]; omega
      have we : IntKind.i64.wrap (m.a + m.n) = m.a + m.n := by rw [IntKind.wrap_i64]; omega
      obtain ⟨cps, hsl⟩ := slSeg q.b m.a (m.a + m.n) m0 (by omega) m2
      rw [show m.a + m.n - m.a = m.n by omega] at hsl
      obtain ⟨a, ha⟩ : ∃ a, m.a = a := ⟨_, rfl⟩
      obtain ⟨mn, hmn⟩ : ∃ a, m.n = a := ⟨_, rfl⟩
      have hmm : Hid (m.a = a ∧ m.n = mn) := ⟨ha, hmn⟩
      rw [ha, hmn] at we hsl
      have hin : Hid (0 ≤ a ∧ 1 ≤ mn ∧ a + mn ≤ 65536) := by rw [← ha, ← hmn]; exact ⟨m0, m1, m2⟩
      have hc0 : Hid (cM m = [.int .i64 a, .int .i64 mn, .bool m.c]) := by show _ = _; rw [← ha, ← hmn]; rfl
      clear hlt hx hc m0 m1 m2 ha hmn
      have hyz : Hid (y.heap.size ≤ z.heap.size) := K.out.low.size
      by_cases hae : a = e
      · obtain ⟨pre, X, hXB⟩ : ∃ pre X, XB = pre ++ [X] := by
          rcases List.eq_nil_or_concat XB with h9 | ⟨pre, X, h9⟩
          · have := J.out.2.2.1 h9
            have := hin.out
            omega
          · exact ⟨pre, X, by rw [h9, List.concat_eq_append]⟩
        have hnx : (a != e) = false := by rw [bne_eq_false_iff_eq]; exact hae
        have hpl : Hid (pre.length + 1 ≤ i ∧ X.1.a + (X.2.length : Int) = a ∧ 0 ≤ X.1.a) := by
          have h1 := J.out.2.2.2.2.2.1 pre X hXB
          have h2 := J.out.2.1
          rw [hXB, List.length_append, List.length_singleton] at h2
          rw [hae]
          exact ⟨h2, h1⟩
        have hXl : Hid (X.2.length ≤ 65536) := by have h1 := hpl.out.2; have h2 := hin.out; show _ ≤ _; omega
        have hnext : Hid (∀ s6 m6 k6, i + 1 ≤ n ∧ (pre ++ [((⟨X.1.a, s6, m6, k6⟩ : Bk), X.2 ++ (Mm.drop a.toNat).take mn.toNat)]).length ≤ i + 1 ∧ (pre ++ [((⟨X.1.a, s6, m6, k6⟩ : Bk), X.2 ++ (Mm.drop a.toNat).take mn.toNat)] = [] → a + mn = -1) ∧ -1 ≤ a + mn ∧ a + mn ≤ 65536 ∧ (∀ pre' X', pre ++ [((⟨X.1.a, s6, m6, k6⟩ : Bk), X.2 ++ (Mm.drop a.toNat).take mn.toNat)] = pre' ++ [X'] → X'.1.a + (X'.2.length : Int) = a + mn ∧ 0 ≤ X'.1.a) ∧ blksF Mm (plB (pre ++ [((⟨X.1.a, s6, m6, k6⟩ : Bk), X.2 ++ (Mm.drop a.toNat).take mn.toNat)])) (a + mn) (M.drop (i + 1)) = blksF Mm [] (-1) M) := fun s6 m6 k6 => by
          have hii' := hin.out
          have hsg : ((Mm.drop a.toNat).take mn.toNat).length = mn.toNat := by
            rw [List.length_take, List.length_drop, hnn.out.2]
            omega
          refine ⟨hlt'.out, by simp; have := hpl.out.1; omega, fun h9 => absurd h9 (by simp), by omega, by omega, fun pre' X' h9 => ?_, ?_⟩
          · have h8 := List.append_inj' h9 rfl
            have h7 := h8.2
            simp at h7
            subst h7
            have h6 := hpl.out.2
            simp only [List.length_append, hsg]
            omega
          · rw [← J.out.2.2.2.2.2.2, hd.out]
            show _ = blksF Mm (bst Mm (plB XB) e m) (m.a + m.n) (M.drop (i + 1))
            rw [hmm.out.1, hmm.out.2]
            congr 1
            unfold bst segM
            rw [hmm.out.1, hmm.out.2, if_pos hae, hXB]
            unfold plB
            rw [List.map_append, List.map_append, List.map_singleton, List.map_singleton, addL_app]
        obtain ⟨g, cb9, hv⟩ := own_some K.out.o (by rw [hXB]; simp)
        rw [List.length_map] at hv
        injection hv with hv3 hv4 hv5
        subst hv3 hv5
        obtain ⟨N9, hN⟩ : ∃ N, XB.length = N := ⟨_, rfl⟩
        obtain ⟨L9, hL⟩ : ∃ L, pre.length = L := ⟨_, rfl⟩
        have hlx : pre.length + 1 = N9 := by rw [← hN, hXB]; simp
        have hN9 : Hid (pre.length + 1 = N9) := hlx
        have hL9 : Hid (pre.length = L9) := hL
        have il := fun w => idxP (P := Tryd.prog) (g := g) (off := 0) (len := N9) (cap := cb) Tryd.underlying22 (s := 2) (by kernel_rfl) .i64 L9 w (by omega)
        rw [Nat.zero_add] at il
        have wl : IntKind.i64.wrap ((N9 : Int) - 1) = (L9 : Int) := by rw [IntKind.wrap_i64]; have := hpl.out.1; have := hlt'.out; omega
        have hZ : Hid (∀ u, Bls y (.slice (some ⟨g, 0, none⟩) N9 cb) XB u → Bls y (.slice (some ⟨g, 0, none⟩) N9 cb) (pre ++ [X]) u) := fun u hu => by rw [hXB] at hu; exact hu
        rw [hN] at K ⊢
        clear hae hXB hlx hN hL
        go_wp2_with (first
          | ((with_reducible refine at_loadm rtM gm (om + i * 3) (k3 m) ?_ ?_ (.tmp 14) ?_ ?_ ?_ ?_); exact hc'.out; rfl; rfl; rfl; rfl)
          | ((with_reducible refine gen_world (z.alloc (.cells #[.int .i64 0, .int .i64 0, .bool false] 72)) (fun u => Bls y (.slice (some ⟨g, 0, none⟩) N9 cb) XB u ∧ Bx u z.heap.size (k3 zM) 72) ?_ ?_); exact ⟨K.out.below (below1 _ _), one_bxL _ _ _⟩; intro z1 K1)
          | ((with_reducible refine at_st rtM z.heap.size (k3 zM) (k3 m) ?_ ?_ ?_ ?_ (.tmp 8) (.tmp 15) ?_ ?_ ?_ ?_ ?_); exact K1.out.2; rfl; rfl; exact oneM _; rfl; rfl; rfl; rfl; intro z2 hw2; have K2 : Hid (Bls y (.slice (some ⟨g, 0, none⟩) N9 cb) XB z2 ∧ Bx z2 z.heap.size (k3 m) 72) := ⟨bls_box K1.out.1 K1.out.2 hyz.out hw2.out, hw2.out.1⟩; clear hw2 K1; have d0 : z2.cell? ⟨z.heap.size, 0, none⟩ = some (.int .i64 a) := by rw [← hmm.out.1]; exact K2.out.2.c 0 _ rfl
             have d1 : z2.cell? ⟨z.heap.size, 1, none⟩ = some (.int .i64 mn) := by rw [← hmm.out.2]; exact K2.out.2.c 1 _ rfl))
        have Z : Hid (Bls y (.slice (some ⟨g, 0, none⟩) N9 cb) (pre ++ [X]) z2 ∧ Bx z2 z.heap.size (k3 m) 72) := ⟨hZ.out z2 K2.out.1, K2.out.2⟩
        clear K2 K d0 d1
        refine wp_region_held_drew (S := fun u => Bx u q.s (sC q p vl) 85 ∧ Bx u z.heap.size (k3 m) 72) (by kernel_rfl) ⟨hs.out.below (below_drew Z.out.1.low), Z.out.2.below (below_drew (Below.refl _ _))⟩ (fun hH => ?_)
        have Z5 : Hid (Bls y (.slice (some ⟨g, 0, none⟩) N9 cb) (pre ++ [X]) z2.drew) := Z.out.1.below (below_drew (Below.refl _ _))
        clear Z
        generalize z2.drew = z5 at hH Z5 ⊢
        refine wpAnyH_take (i := 0) (v := .pointer (some ⟨g, L9 * 2, none⟩)) rfl (by kernel_rfl) (by kernel_rfl) (by kernel_rfl) (fun _ _ _ h => h) (.inl ⟨by kernel_rfl, fun u hu => by go_simp⟩) hH ?_
        try simp only [Act.put, List.setIfInBounds_toArray]
        refine wpAnyH_take (i := 1) (v := .pointer (some ⟨g, L9 * 2, none⟩)) rfl (by kernel_rfl) (by kernel_rfl) (by kernel_rfl) (fun _ _ _ h => h) (.inl ⟨by kernel_rfl, fun u hu => by go_simp⟩) hH ?_
        try simp only [Act.put]
        refine wpAnyH_take (i := 2) (v := .pointer (some ⟨g, L9 * 2, none⟩)) rfl (by kernel_rfl) (by kernel_rfl) (by kernel_rfl) (fun _ _ _ h => h) (.inl ⟨by kernel_rfl, fun u hu => by go_simp⟩) hH ?_
        try simp only [Act.put]
        refine wpAnyH_take (i := 3) (v := .pointer (some ⟨g, L9 * 2 + 1, none⟩)) rfl (by kernel_rfl) (by kernel_rfl) (by kernel_rfl) (fun _ _ _ h => h) (.inl ⟨by kernel_rfl, fun u hu => by go_simp⟩) hH ?_
        try simp only [Act.put]
        refine wpAnyH_take (i := 5) (v := .pointer (some ⟨q.s, 0, none⟩)) rfl (by kernel_rfl) (by kernel_rfl) (by kernel_rfl) (fun _ _ _ h => h) (.inl ⟨by kernel_rfl, fun u hu => by go_simp⟩) hH ?_
        try simp only [Act.put]
        refine wpAnyH_take (i := 6) (v := .pointer (some ⟨q.s, 0, none⟩)) rfl (by kernel_rfl) (by kernel_rfl) (by kernel_rfl) (fun _ _ _ h => h) (.inl ⟨by kernel_rfl, fun u hu => by go_simp⟩) hH ?_
        try simp only [Act.put]
        refine wpAnyH_take (i := 7) (v := .pointer (some ⟨q.s, 3, none⟩)) rfl (by kernel_rfl) (by kernel_rfl) (by kernel_rfl) (fun _ _ _ h => h) (.inl ⟨by kernel_rfl, fun u hu => by go_simp⟩) hH ?_
        try simp only [Act.put]
        refine wpAnyH_take (i := 8) (v := .slice (some ⟨q.b, 0, none⟩) 65536 65536) rfl (by kernel_rfl) (by kernel_rfl) (by kernel_rfl) (fun _ _ _ h => h) (.inl ⟨by kernel_rfl, fun u hu => by have d : u.cell? ⟨q.s, 3, none⟩ = some (.slice (some ⟨q.b, 0, none⟩) 65536 65536) := hu.1.c 3 _ rfl; go_simp⟩) hH ?_
        try simp only [Act.put]
        refine wpAnyH_take (i := 9) (v := .pointer (some ⟨z.heap.size, 0, none⟩)) rfl (by kernel_rfl) (by kernel_rfl) (by kernel_rfl) (fun _ _ _ h => h) (.inl ⟨by kernel_rfl, fun u hu => by go_simp⟩) hH ?_
        try simp only [Act.put]
        refine wpAnyH_take (i := 10) (v := .int .i64 a) rfl (by kernel_rfl) (by kernel_rfl) (by kernel_rfl) (fun _ _ _ h => h) (.inl ⟨by kernel_rfl, fun u hu => by have d : u.cell? ⟨z.heap.size, 0, none⟩ = some (.int .i64 a) := (hmm.out.1 ▸ hu.2.c 0 (.int .i64 m.a) rfl); go_simp⟩) hH ?_
        try simp only [Act.put]
        refine wpAnyH_take (i := 11) (v := .int .i64 (a + mn)) rfl (by kernel_rfl) (by kernel_rfl) (by kernel_rfl) (fun _ _ _ h => h) (.inl ⟨by kernel_rfl, fun u hu => by go_simp⟩) hH ?_
        try simp only [Act.put]
        refine wpAnyH_take (i := 12) (v := .slice (some ⟨q.b, a.toNat, none⟩) mn.toNat cps) rfl (by kernel_rfl) (by kernel_rfl) (by kernel_rfl) (fun _ _ _ h => h) (.inl ⟨by kernel_rfl, fun u hu => by have d := hsl u; go_simp⟩) hH ?_
        try simp only [Act.put]
        refine wpAnyH_ready (rs := [4]) (by kernel_rfl) (by simp) (AllReadyH.cons rfl (fun K hK => ?_) AllReadyH.nil)
        rw [if_pos (by rfl)]
        have c4 : z5.cell? ⟨g, L9 * 2 + 1, none⟩ = some (.slice X.1.sp X.1.m X.1.cap) := (hL9.out ▸ (own_cell1 Z5.out.o pre.length X.1 (by simp) none 0 0).1)
        go_wp2
        refine hK.out _ _ hH (fun hH => ?_)
        clear hK K c4
        try simp only [Act.put, List.setIfInBounds_toArray, List.set_cons_zero, List.set_cons_succ]
        refine wpAnyH_ready (rs := [13]) (by kernel_rfl) (by simp) (AllReadyH.cons rfl (fun K hK => ?_) AllReadyH.nil)
        rw [if_pos (by rfl)]
        have hX := Z5.out.r X (by simp)
        have hseg : ((Mm.drop a.toNat).take mn.toNat).length = mn.toNat := by
          rw [List.length_take, List.length_drop, hnn.out.2]
          have := hin.out
          omega
        obtain ⟨v6, z6, hrun, o6, g6, n6⟩ := run_appN kU z5 y.heap.size (.slice X.1.sp X.1.m X.1.cap) X.2 ((Mm.drop a.toNat).take mn.toNat) 33 hX.1 (some ⟨q.b, a.toNat, none⟩) mn.toNat cps hseg (lies_seg (hb.out.below Z5.out.low) _ _) (by have := hin.out; omega) (by have := hXl.out; have := hin.out; omega) Z5.out.low.size
        obtain ⟨s6, k6, e6, -⟩ := OwnL.open (c := cU) (s := 1) (fun _ => rfl) o6
        obtain ⟨m6, hm6⟩ : ∃ q, (X.2 ++ (Mm.drop a.toNat).take mn.toNat).length = q := ⟨_, rfl⟩
        rw [hm6] at e6
        subst e6
        obtain ⟨f1, f2, B6⟩ := Z5.out.grow o6 g6 n6 hm6
        rw [hL9.out] at f1 f2 B6
        replace B6 : Hid _ := B6
        refine wp_appR 33 (.tmp 40) (.tmp 48) rfl _ _ rfl rfl _ _ hrun ?_
        have hq6 : Hid (Bx z6 q.s (sC q p vl) 85 ∧ Bx z6 z.heap.size (k3 m) 72) := ⟨bx_grown hX.1 hH.1 (by decide) g6, bx_grown hX.1 hH.2 (by decide) g6⟩
        obtain ⟨cs6, hbk6⟩ := (Z5.out.o).ty g rfl
        have hbk7 : Hid (Bx z6 g cs6 42) := bx_grown hX.1 hbk6 (by decide) g6
        refine hK.out _ _ hq6.out (fun hH => ?_)
        clear hK K hrun o6 g6 n6 hX hseg hbk6 Z5 hm6
        try simp only [Act.put, List.setIfInBounds_toArray]
        refine wpAnyH_take (i := 14) (v := .pointer (some ⟨g, L9 * 2, none⟩)) rfl (by kernel_rfl) (by kernel_rfl) (by kernel_rfl) (fun _ _ _ h => h) (.inl ⟨by kernel_rfl, fun u hu => by go_simp⟩) hH ?_
        try simp only [Act.put]
        refine wpAnyH_take (i := 15) (v := .pointer (some ⟨g, L9 * 2 + 1, none⟩)) rfl (by kernel_rfl) (by kernel_rfl) (by kernel_rfl) (fun _ _ _ h => h) (.inl ⟨by kernel_rfl, fun u hu => by go_simp⟩) hH ?_
        try simp only [Act.put]
        refine wpAnyH_ready (rs := [16]) (by kernel_rfl) (by simp) (AllReadyH.cons rfl (fun K hK => ?_) AllReadyH.nil)
        rw [if_pos (by rfl)]
        go_wp2
        refine hK.out _ _ ⟨bx_other hbk7.out (by decide) (fun q' hq' => heap_setCell_other z6 ⟨g, L9 * 2 + 1, none⟩ q' _ hq') hH.1, bx_other hbk7.out (by decide) (fun q' hq' => heap_setCell_other z6 ⟨g, L9 * 2 + 1, none⟩ q' _ hq') hH.2⟩ (fun _ => ?_)
        refine wpAnyH_done (by kernel_rfl) ?_ _
        clear hK K f1 f2 hH hq6 hbk7
        go_wp2
        go_roundw
        case rel => exact ⟨i + 1, _, _, pre ++ [((⟨X.1.a, s6, m6, k6⟩ : Bk), X.2 ++ (Mm.drop a.toNat).take mn.toNat)], a + mn, _, rfl, by rw [List.length_append, List.length_singleton, hN9.out], rfl, by simp, hnext.out s6 m6 k6, by
          have e9 : (pre ++ [((⟨X.1.a, s6, m6, k6⟩ : Bk), X.2 ++ (Mm.drop a.toNat).take mn.toNat)]).length = N9 := by rw [← hN9.out]; simp
          rw [e9]
          exact B6⟩
        case measure => have := hlt'.out; simp [intOf]; omega
      · obtain ⟨pre, hpre⟩ : ∃ pre, XB = pre := ⟨_, rfl⟩
        obtain ⟨X, hX0⟩ : ∃ X : Bb, X = (⟨a, none, 0, 0⟩, []) := ⟨_, rfl⟩
        have hnx : (a != e) = true := by rw [bne_iff_ne]; exact hae
        have hpl : Hid (pre.length ≤ i ∧ X.1.a + (X.2.length : Int) = a ∧ 0 ≤ X.1.a) := by
          rw [hX0, ← hpre]
          exact ⟨J.out.2.1, by simp, hin.out.1⟩
        have hXl : Hid (X.2.length ≤ 65536) := by show _ ≤ _; rw [hX0]; simp
        have hnext : Hid (∀ s6 m6 k6, i + 1 ≤ n ∧ (pre ++ [((⟨X.1.a, s6, m6, k6⟩ : Bk), X.2 ++ (Mm.drop a.toNat).take mn.toNat)]).length ≤ i + 1 ∧ (pre ++ [((⟨X.1.a, s6, m6, k6⟩ : Bk), X.2 ++ (Mm.drop a.toNat).take mn.toNat)] = [] → a + mn = -1) ∧ -1 ≤ a + mn ∧ a + mn ≤ 65536 ∧ (∀ pre' X', pre ++ [((⟨X.1.a, s6, m6, k6⟩ : Bk), X.2 ++ (Mm.drop a.toNat).take mn.toNat)] = pre' ++ [X'] → X'.1.a + (X'.2.length : Int) = a + mn ∧ 0 ≤ X'.1.a) ∧ blksF Mm (plB (pre ++ [((⟨X.1.a, s6, m6, k6⟩ : Bk), X.2 ++ (Mm.drop a.toNat).take mn.toNat)])) (a + mn) (M.drop (i + 1)) = blksF Mm [] (-1) M) := fun s6 m6 k6 => by
          have hii' := hin.out
          have hsg : ((Mm.drop a.toNat).take mn.toNat).length = mn.toNat := by
            rw [List.length_take, List.length_drop, hnn.out.2]
            omega
          refine ⟨hlt'.out, by simp; have := hpl.out.1; omega, fun h9 => absurd h9 (by simp), by omega, by omega, fun pre' X' h9 => ?_, ?_⟩
          · have h8 := List.append_inj' h9 rfl
            have h7 := h8.2
            simp at h7
            subst h7
            have h6 := hpl.out.2
            simp only [List.length_append, hsg]
            omega
          · rw [← J.out.2.2.2.2.2.2, hd.out]
            show _ = blksF Mm (bst Mm (plB XB) e m) (m.a + m.n) (M.drop (i + 1))
            rw [hmm.out.1, hmm.out.2]
            congr 1
            unfold bst segM
            rw [hmm.out.1, hmm.out.2, if_neg hae, show plB XB ++ [(a, [])] = plB (pre ++ [X]) by rw [hX0, ← hpre]; unfold plB; simp]
            unfold plB
            rw [List.map_append, List.map_append, List.map_singleton, List.map_singleton, addL_app]
        obtain ⟨L9, hL⟩ : ∃ L, XB.length = L := ⟨_, rfl⟩
        have hL9 : Hid (pre.length = L9) := by show _ = _; rw [← hL, hpre]
        have hXbl : Hid (XB.length ≤ 65536) := by show _ ≤ _; have := J.out.1; have := J.out.2.1; omega
        have wl : ∀ N9 : Nat, N9 = L9 + 1 → IntKind.i64.wrap ((N9 : Int) - 1) = (L9 : Int) := fun N9 h9 => by rw [IntKind.wrap_i64]; have := hXbl.out; omega
        replace wl : Hid _ := wl
        have hX0' : Hid (X = (⟨a, none, 0, 0⟩, [])) := hX0
        have hpre' : Hid (XB = pre) := hpre
        rw [hL] at K ⊢
        have hL' : Hid (XB.length = L9) := hL
        clear hae hL hX0 hpre
        go_wp2_with (first
          | ((with_reducible refine at_loadm rtM gm (om + i * 3) (k3 m) ?_ ?_ (.tmp 14) ?_ ?_ ?_ ?_); exact hc'.out; rfl; rfl; rfl; rfl)
          | ((with_reducible refine gen_world (z.alloc (.cells #[.int .i64 0, .int .i64 0, .bool false] 72)) (fun u => Bls y (.slice sb L9 cb) XB u ∧ Bx u z.heap.size (k3 zM) 72) ?_ ?_); exact ⟨K.out.below (below1 _ _), one_bxL _ _ _⟩; intro z1 K1)
          | ((with_reducible refine at_st rtM z.heap.size (k3 zM) (k3 m) ?_ ?_ ?_ ?_ (.tmp 8) (.tmp 15) ?_ ?_ ?_ ?_ ?_); exact K1.out.2; rfl; rfl; exact oneM _; rfl; rfl; rfl; rfl; intro z2 hw2; have K2 : Hid (Bls y (.slice sb L9 cb) XB z2 ∧ Bx z2 z.heap.size (k3 m) 72) := ⟨bls_box K1.out.1 K1.out.2 hyz.out hw2.out, hw2.out.1⟩; clear hw2 K1; have d0 : z2.cell? ⟨z.heap.size, 0, none⟩ = some (.int .i64 a) := by rw [← hmm.out.1]; exact K2.out.2.c 0 _ rfl
             have d1 : z2.cell? ⟨z.heap.size, 1, none⟩ = some (.int .i64 mn) := by rw [← hmm.out.2]; exact K2.out.2.c 1 _ rfl)
          | ((with_reducible refine at_bu _ _ (k2 ⟨a, none, 0, 0⟩) ?_ ?_ ?_ ?_ ?_); rfl; rfl; rfl; kernel_rfl)
          | (at_builtin; refine at_appL kBk rfl (.tmp 20) (.tmp 24) rfl y.heap.size (.slice sb L9 cb) (XB.map (·.1)) rfl (K2.out.1.o.alloc _) z2.heap.size ⟨a, none, 0, 0⟩ rfl (one_bxL _ _ _) ?_ ?_ ?_; (rw [List.length_map]; have := hXbl.out; omega); (have := K2.out.1.low.size; simp; omega); intro v' z3 A; obtain ⟨g, cb9, hv⟩ := own_some A.out.own (by simp); rw [List.length_append, List.length_map, List.length_singleton] at hv; obtain ⟨N9, hN⟩ : ∃ N, XB.length + 1 = N := ⟨_, rfl⟩; rw [hN] at hv; subst hv; have hN9 : Hid (pre.length + 1 = N9) := (by show _ = _; rw [← hpre'.out]; exact hN); have K3 : Hid (Bls y (.slice (some ⟨g, 0, none⟩) N9 cb9) (XB ++ [(⟨a, none, 0, 0⟩, [])]) z3 ∧ Bx z3 z.heap.size (k3 m) 72) := ⟨K2.out.1.push A.out, app1_bx K2.out.1.o A.out (by decide) K2.out.2⟩; clear A; have wl9 := wl.out N9 (by rw [← hN, hL'.out]); have il := fun w => idxP (P := Tryd.prog) (g := g) (off := 0) (len := N9) (cap := cb9) Tryd.underlying22 (s := 2) (by kernel_rfl) .i64 L9 w (by rw [← hN, hL'.out]; omega); rw [Nat.zero_add] at il; clear hN; have e0 : z3.cell? ⟨z.heap.size, 0, none⟩ = some (.int .i64 a) := (hmm.out.1 ▸ K3.out.2.c 0 (.int .i64 m.a) rfl); have e1 : z3.cell? ⟨z.heap.size, 1, none⟩ = some (.int .i64 mn) := (hmm.out.2 ▸ K3.out.2.c 1 (.int .i64 m.n) rfl)))
        have Z : Hid (Bls y (.slice (some ⟨g, 0, none⟩) N9 cb9) (pre ++ [X]) z3 ∧ Bx z3 z.heap.size (k3 m) 72) := by rw [← hpre'.out, hX0'.out]; exact K3.out
        clear K3 K d0 d1 e0 e1
        refine wp_region_held_drew (S := fun u => Bx u q.s (sC q p vl) 85 ∧ Bx u z.heap.size (k3 m) 72) (by kernel_rfl) ⟨hs.out.below (below_drew Z.out.1.low), Z.out.2.below (below_drew (Below.refl _ _))⟩ (fun hH => ?_)
        have Z5 : Hid (Bls y (.slice (some ⟨g, 0, none⟩) N9 cb9) (pre ++ [X]) z3.drew) := Z.out.1.below (below_drew (Below.refl _ _))
        clear Z
        generalize z3.drew = z5 at hH Z5 ⊢
        refine wpAnyH_take (i := 0) (v := .pointer (some ⟨g, L9 * 2, none⟩)) rfl (by kernel_rfl) (by kernel_rfl) (by kernel_rfl) (fun _ _ _ h => h) (.inl ⟨by kernel_rfl, fun u hu => by go_simp⟩) hH ?_
        try simp only [Act.put, List.setIfInBounds_toArray]
        refine wpAnyH_take (i := 1) (v := .pointer (some ⟨g, L9 * 2, none⟩)) rfl (by kernel_rfl) (by kernel_rfl) (by kernel_rfl) (fun _ _ _ h => h) (.inl ⟨by kernel_rfl, fun u hu => by go_simp⟩) hH ?_
        try simp only [Act.put]
        refine wpAnyH_take (i := 2) (v := .pointer (some ⟨g, L9 * 2, none⟩)) rfl (by kernel_rfl) (by kernel_rfl) (by kernel_rfl) (fun _ _ _ h => h) (.inl ⟨by kernel_rfl, fun u hu => by go_simp⟩) hH ?_
        try simp only [Act.put]
        refine wpAnyH_take (i := 3) (v := .pointer (some ⟨g, L9 * 2 + 1, none⟩)) rfl (by kernel_rfl) (by kernel_rfl) (by kernel_rfl) (fun _ _ _ h => h) (.inl ⟨by kernel_rfl, fun u hu => by go_simp⟩) hH ?_
        try simp only [Act.put]
        refine wpAnyH_take (i := 5) (v := .pointer (some ⟨q.s, 0, none⟩)) rfl (by kernel_rfl) (by kernel_rfl) (by kernel_rfl) (fun _ _ _ h => h) (.inl ⟨by kernel_rfl, fun u hu => by go_simp⟩) hH ?_
        try simp only [Act.put]
        refine wpAnyH_take (i := 6) (v := .pointer (some ⟨q.s, 0, none⟩)) rfl (by kernel_rfl) (by kernel_rfl) (by kernel_rfl) (fun _ _ _ h => h) (.inl ⟨by kernel_rfl, fun u hu => by go_simp⟩) hH ?_
        try simp only [Act.put]
        refine wpAnyH_take (i := 7) (v := .pointer (some ⟨q.s, 3, none⟩)) rfl (by kernel_rfl) (by kernel_rfl) (by kernel_rfl) (fun _ _ _ h => h) (.inl ⟨by kernel_rfl, fun u hu => by go_simp⟩) hH ?_
        try simp only [Act.put]
        refine wpAnyH_take (i := 8) (v := .slice (some ⟨q.b, 0, none⟩) 65536 65536) rfl (by kernel_rfl) (by kernel_rfl) (by kernel_rfl) (fun _ _ _ h => h) (.inl ⟨by kernel_rfl, fun u hu => by have d : u.cell? ⟨q.s, 3, none⟩ = some (.slice (some ⟨q.b, 0, none⟩) 65536 65536) := hu.1.c 3 _ rfl; go_simp⟩) hH ?_
        try simp only [Act.put]
        refine wpAnyH_take (i := 9) (v := .pointer (some ⟨z.heap.size, 0, none⟩)) rfl (by kernel_rfl) (by kernel_rfl) (by kernel_rfl) (fun _ _ _ h => h) (.inl ⟨by kernel_rfl, fun u hu => by go_simp⟩) hH ?_
        try simp only [Act.put]
        refine wpAnyH_take (i := 10) (v := .int .i64 a) rfl (by kernel_rfl) (by kernel_rfl) (by kernel_rfl) (fun _ _ _ h => h) (.inl ⟨by kernel_rfl, fun u hu => by have d : u.cell? ⟨z.heap.size, 0, none⟩ = some (.int .i64 a) := (hmm.out.1 ▸ hu.2.c 0 (.int .i64 m.a) rfl); go_simp⟩) hH ?_
        try simp only [Act.put]
        refine wpAnyH_take (i := 11) (v := .int .i64 (a + mn)) rfl (by kernel_rfl) (by kernel_rfl) (by kernel_rfl) (fun _ _ _ h => h) (.inl ⟨by kernel_rfl, fun u hu => by go_simp⟩) hH ?_
        try simp only [Act.put]
        refine wpAnyH_take (i := 12) (v := .slice (some ⟨q.b, a.toNat, none⟩) mn.toNat cps) rfl (by kernel_rfl) (by kernel_rfl) (by kernel_rfl) (fun _ _ _ h => h) (.inl ⟨by kernel_rfl, fun u hu => by have d := hsl u; go_simp⟩) hH ?_
        try simp only [Act.put]
        refine wpAnyH_ready (rs := [4]) (by kernel_rfl) (by simp) (AllReadyH.cons rfl (fun K hK => ?_) AllReadyH.nil)
        rw [if_pos (by rfl)]
        have c4 : z5.cell? ⟨g, L9 * 2 + 1, none⟩ = some (.slice X.1.sp X.1.m X.1.cap) := (hL9.out ▸ (own_cell1 Z5.out.o pre.length X.1 (by simp) none 0 0).1)
        go_wp2
        refine hK.out _ _ hH (fun hH => ?_)
        clear hK K c4
        try simp only [Act.put, List.setIfInBounds_toArray, List.set_cons_zero, List.set_cons_succ]
        refine wpAnyH_ready (rs := [13]) (by kernel_rfl) (by simp) (AllReadyH.cons rfl (fun K hK => ?_) AllReadyH.nil)
        rw [if_pos (by rfl)]
        have hX := Z5.out.r X (by simp)
        have hseg : ((Mm.drop a.toNat).take mn.toNat).length = mn.toNat := by
          rw [List.length_take, List.length_drop, hnn.out.2]
          have := hin.out
          omega
        obtain ⟨v6, z6, hrun, o6, g6, n6⟩ := run_appN kU z5 y.heap.size (.slice X.1.sp X.1.m X.1.cap) X.2 ((Mm.drop a.toNat).take mn.toNat) 33 hX.1 (some ⟨q.b, a.toNat, none⟩) mn.toNat cps hseg (lies_seg (hb.out.below Z5.out.low) _ _) (by have := hin.out; omega) (by have := hXl.out; have := hin.out; omega) Z5.out.low.size
        obtain ⟨s6, k6, e6, -⟩ := OwnL.open (c := cU) (s := 1) (fun _ => rfl) o6
        obtain ⟨m6, hm6⟩ : ∃ q, (X.2 ++ (Mm.drop a.toNat).take mn.toNat).length = q := ⟨_, rfl⟩
        rw [hm6] at e6
        subst e6
        obtain ⟨f1, f2, B6⟩ := Z5.out.grow o6 g6 n6 hm6
        rw [hL9.out] at f1 f2 B6
        replace B6 : Hid _ := B6
        refine wp_appR 33 (.tmp 40) (.tmp 48) rfl _ _ rfl rfl _ _ hrun ?_
        have hq6 : Hid (Bx z6 q.s (sC q p vl) 85 ∧ Bx z6 z.heap.size (k3 m) 72) := ⟨bx_grown hX.1 hH.1 (by decide) g6, bx_grown hX.1 hH.2 (by decide) g6⟩
        obtain ⟨cs6, hbk6⟩ := (Z5.out.o).ty g rfl
        have hbk7 : Hid (Bx z6 g cs6 42) := bx_grown hX.1 hbk6 (by decide) g6
        refine hK.out _ _ hq6.out (fun hH => ?_)
        clear hK K hrun o6 g6 n6 hX hseg hbk6 Z5 hm6
        try simp only [Act.put, List.setIfInBounds_toArray]
        refine wpAnyH_take (i := 14) (v := .pointer (some ⟨g, L9 * 2, none⟩)) rfl (by kernel_rfl) (by kernel_rfl) (by kernel_rfl) (fun _ _ _ h => h) (.inl ⟨by kernel_rfl, fun u hu => by go_simp⟩) hH ?_
        try simp only [Act.put]
        refine wpAnyH_take (i := 15) (v := .pointer (some ⟨g, L9 * 2 + 1, none⟩)) rfl (by kernel_rfl) (by kernel_rfl) (by kernel_rfl) (fun _ _ _ h => h) (.inl ⟨by kernel_rfl, fun u hu => by go_simp⟩) hH ?_
        try simp only [Act.put]
        refine wpAnyH_ready (rs := [16]) (by kernel_rfl) (by simp) (AllReadyH.cons rfl (fun K hK => ?_) AllReadyH.nil)
        rw [if_pos (by rfl)]
        go_wp2
        refine hK.out _ _ ⟨bx_other hbk7.out (by decide) (fun q' hq' => heap_setCell_other z6 ⟨g, L9 * 2 + 1, none⟩ q' _ hq') hH.1, bx_other hbk7.out (by decide) (fun q' hq' => heap_setCell_other z6 ⟨g, L9 * 2 + 1, none⟩ q' _ hq') hH.2⟩ (fun _ => ?_)
        refine wpAnyH_done (by kernel_rfl) ?_ _
        clear hK K f1 f2 hH hq6 hbk7
        go_wp2
        go_roundw
        case rel => exact ⟨i + 1, _, _, pre ++ [((⟨X.1.a, s6, m6, k6⟩ : Bk), X.2 ++ (Mm.drop a.toNat).take mn.toNat)], a + mn, _, rfl, by rw [List.length_append, List.length_singleton, hN9.out], rfl, by simp, hnext.out s6 m6 k6, by
          have e9 : (pre ++ [((⟨X.1.a, s6, m6, k6⟩ : Bk), X.2 ++ (Mm.drop a.toNat).take mn.toNat)]).length = N9 := by rw [← hN9.out]; simp
          rw [e9]
          exact B6⟩
        case measure => have := hlt'.out; simp [intOf]; omega
    · have hie : i = n := by have := J.out.1; omega
      subst hie
      have hend : Hid (plB XB = blksF Mm [] (-1) M) := by
        show _ = _
        rw [← J.out.2.2.2.2.2.2, List.drop_eq_nil_of_le (by rw [hnn.out.1]; exact Nat.le_refl _)]
        rfl
      clear hlt
      go_wp2
      exact hfin.out _ XB _ K.out hend.out
end Go.Proofs.YtkpfhnogpcigaaaDoorR
/- What the plain assembler keeps: places, marks and blocks among the addresses. -/
namespace Go.Proofs.YtkpfhnogpcigaaaDoorR
open Go Go.RowKit
set_option linter.unusedVariables false
set_option maxHeartbeats 1000000
set_option maxRecDepth 20000

theorem mks_in (U : List UInt8) (hU : U.length = 65536) : ∀ (f a : Nat), ∀ m ∈ mks U f a, MkIn m
  | 0, _, m, h => by cases h
  | f + 1, a, m, h => by
    unfold mks at h
    rcases h0 : U[a]? with _ | u
    · rw [h0] at h; cases h
    · rw [h0] at h
      simp only at h
      have h1 := (List.getElem?_eq_some_iff.1 h0).1
      have h2 := rEnd_ge U u (a + 1)
      have h3 := rEnd_le U u (a + 1) h1
      rcases List.mem_append.1 h with h | h
      · by_cases hu : u = 0
        · rw [if_pos hu] at h; cases h
        · rw [if_neg hu] at h
          rw [List.mem_singleton.1 h]
          unfold MkIn
          simp only
          omega
      · exact mks_in U hU f _ m h
theorem mks_bounds (U : List UInt8) (hU : U.length = 65536) : (marksU U).length ≤ 65536 := by
  have := mks_len U 65536 0 (Nat.zero_le _)
  rw [hU] at this
  exact this
/-- Rows of bytes that lie among the addresses. -/
def RwIn (acc : List (Int × List UInt8)) (e : Int) : Prop := (∀ x ∈ acc, 0 ≤ x.1 ∧ x.1 + (x.2.length : Int) ≤ 65536) ∧ (∀ pre x, acc = pre ++ [x] → x.1 + (x.2.length : Int) = e) ∧ (acc = [] → e = -1)
theorem bst_in (Mm : List UInt8) (hM : Mm.length = 65536) (acc : List (Int × List UInt8)) (e : Int) (m : Mk) (h : RwIn acc e) (hm : MkIn m) : RwIn (bst Mm acc e m) (m.a + m.n) := by
  obtain ⟨m0, m1, m2⟩ := hm
  have hsg : ((segM Mm m).length : Int) = m.n := by
    unfold segM
    rw [List.length_take, List.length_drop, hM]
    omega
  unfold bst
  by_cases he : m.a = e
  · rw [if_pos he]
    rcases List.eq_nil_or_concat acc with h9 | ⟨pre, x, h9⟩
    · have := h.2.2 h9
      omega
    · rw [List.concat_eq_append] at h9
      subst h9
      rw [addL_app]
      have h8 := h.2.1 pre x rfl
      have h7 := (h.1 x (by simp)).1
      have hl : ((x.2 ++ segM Mm m).length : Int) = x.2.length + m.n := by rw [List.length_append]; omega
      refine ⟨fun y hy => ?_, fun pre' x' e' => ?_, fun e' => absurd e' (by simp)⟩
      · rcases List.mem_append.1 hy with hy | hy
        · exact h.1 y (by simp [hy])
        · rw [List.mem_singleton.1 hy]
          simp only [hl]
          omega
      · have e2 := (List.append_inj' e' rfl).2
        simp at e2
        subst e2
        simp only [hl]
        omega
  · rw [if_neg he, addL_app]
    have hl : (([] ++ segM Mm m).length : Int) = m.n := by rw [List.nil_append]; exact hsg
    refine ⟨fun y hy => ?_, fun pre' x' e' => ?_, fun e' => absurd e' (by simp)⟩
    · rcases List.mem_append.1 hy with hy | hy
      · exact h.1 y hy
      · rw [List.mem_singleton.1 hy]
        simp only [hl]
        omega
    · have e2 := (List.append_inj' e' rfl).2
      simp at e2
      subst e2
      simp only [hsg]
theorem blks_in (Mm : List UInt8) (hM : Mm.length = 65536) : ∀ (M : List Mk) (acc : List (Int × List UInt8)) (e : Int), RwIn acc e → (∀ m ∈ M, MkIn m) → ∀ x ∈ blksF Mm acc e M, 0 ≤ x.1 ∧ x.1 + (x.2.length : Int) ≤ 65536
  | [], acc, e, h, _, x, hx => h.1 x hx
  | m :: r, acc, e, h, hm, x, hx => blks_in Mm hM r _ _ (bst_in Mm hM acc e m h (hm m (by simp))) (fun m' h' => hm m' (by simp [h'])) x hx
theorem blks_len (Mm : List UInt8) : ∀ (M : List Mk) (acc : List (Int × List UInt8)) (e : Int), (blksF Mm acc e M).length ≤ acc.length + M.length
  | [], acc, _ => Nat.le_refl _
  | m :: r, acc, e => by
    have ih := blks_len Mm r (bst Mm acc e m) (m.a + m.n)
    have hl : ∀ (l : List (Int × List UInt8)) (s : List UInt8), (addL l s).length = l.length := fun l s => by
      rcases List.eq_nil_or_concat l with h | ⟨pre, x, h⟩
      · rw [h]; rfl
      · rw [h, List.concat_eq_append, addL_app]; simp
    have h2 : (bst Mm acc e m).length ≤ acc.length + 1 := by
      unfold bst
      rw [hl]
      split
      · omega
      · simp
    rw [blksF, List.length_cons]
    omega
/-- A source that can be laid: each item's place, and that it fits. -/
theorem lay_fits : ∀ (l : List Ri) (s : Sh) (i : Nat), s.Ok → (∀ r ∈ l, mayI r = true) → layE s l i = none → ∀ (j : Nat) (r : Ri) (p : Nat), l[j]? = some r → (plcs s l)[j]? = some p → p ≤ 65536 ∧ ((r.k = 1 ∨ r.k = 4) ∨ p + szN r ≤ 65536)
  | [], s, i, _, _, _, j, r, p, h, _ => by simp at h
  | x :: l, s, i, hs, hm, hE, j, r, p, hj, hp => by
    have h0 : stE s x = 0 := by
      unfold layE at hE
      split at hE
      · assumption
      · cases hE
    have hE' : layE (stS s x) l (i + 1) = none := by
      unfold layE at hE
      rw [if_pos h0] at hE
      exact hE
    cases j with
    | zero =>
      simp [plcs] at hj hp
      subst hj hp
      refine ⟨hs.p, ?_⟩
      by_cases h1 : x.k = 1
      · exact .inl (.inl h1)
      · by_cases h4 : x.k = 4
        · exact .inl (.inr h4)
        · refine .inr ?_
          unfold stE at h0
          rw [if_neg h1, if_neg h4] at h0
          exact (clE_zero h0).1
    | succ j =>
      simp [plcs] at hj hp
      exact lay_fits l (stS s x) (i + 1) (hs.st (hm x (by simp)) h0) (fun r hr => hm r (by simp [hr])) hE' j r p hj hp
theorem plcs_len : ∀ (l : List Ri) (s : Sh), (plcs s l).length = l.length
  | [], _ => rfl
  | x :: l, s => by simp [plcs, plcs_len l]
/-- Names and places of labels. -/
def NmIn (N : List (ByteArray × Nat)) : Prop := ∀ x ∈ N, x.2 ≤ 65535 ∧ isNm x.1 = true
theorem nm_st {s : Sh} {r : Ri} (h : NmIn s.N) (hm : mayI r = true) (h0 : stE s r = 0) : NmIn (stS s r).N := by
  unfold stS
  split
  · rename_i hk
    unfold stE at h0
    rw [if_pos hk] at h0
    have h1 := (nmE_zero h0).1
    intro x hx
    rcases List.mem_cons.1 hx with rfl | hx
    · refine ⟨h1, ?_⟩
      rw [may1 hk] at hm
      simp at hm
      exact hm.1
    · exact h x hx
  · split
    · exact h
    · exact h
/-- What Assemble answers: why a source is none, and which item it is. -/
def zipP (L : List Itm) : List (Itm × Nat) := L.zip (plcs sh0 (L.map (·.1)))
def asmR (L : List Itm) : Int × Int := if checkE (L.map (·.1)) ≠ 0 then (checkE (L.map (·.1)), checkN (L.map (·.1))) else match layE sh0 (L.map (·.1)) 0 with
  | some (e, i) => (e, (i : Int))
  | none => match filE (layS sh0 (L.map (·.1))).N (zipP L) 0 with
    | some (e, i) => (e, (i : Int))
    | none => (0, 0)
/-- The object: its marks, its rows of bytes, its labels. -/
def asmU (L : List Itm) : List UInt8 := (layS sh0 (L.map (·.1))).U
def asmN (L : List Itm) : List (ByteArray × Nat) := (layS sh0 (L.map (·.1))).N
def asmMem (L : List Itm) : List UInt8 := filM (asmN L) (List.replicate 65536 0) (zipP L)
end Go.Proofs.YtkpfhnogpcigaaaDoorR
/- The object of a sheet that is laid and filled. -/
namespace Go.Proofs.YtkpfhnogpcigaaaDoorR
open Go Go.RowKit
set_option linter.unusedVariables false
set_option maxHeartbeats 3000000
set_option maxRecDepth 20000

/-- What sorted answers. -/
def SoE (y : World) (N : List (ByteArray × Nat)) (e : Ending) (z : World) : Prop := ∃ sp cap, e = .returned (.slice sp N.length cap) ∧ Hid (Below y.heap.size y z ∧ LiesL 2 cLa z sp (sortN N) ∧ N.length ≤ cap ∧ ∀ a, sp = some a → y.heap.size ≤ a.block)
/-- What object answers. -/
def OjE (y : World) (U Mm : List UInt8) (N : List (ByteArray × Nat)) (e : Ending) (z : World) : Prop := ∃ x : Oo, e = .returned (.agg (oC x)) ∧ Hid (Below y.heap.size y z ∧ Lco z x ∧ plB x.B = blksF Mm [] (-1) (marksU U) ∧ x.M = marksU U ∧ x.L = sortN N)
theorem lb_own {z : World} {B : Nat} {sp : Option Addr} {m cap : Nat} {L : List UInt8} (h : OwnL 5 1 cU B z (.slice sp m cap) L) : LB8 z sp L ∧ L.length ≤ cap ∧ ∀ a, sp = some a → B ≤ a.block := by
  obtain ⟨q1, k1, e1, l1, b1, -, c1⟩ := OwnL.open (c := cU) (s := 1) (fun _ => rfl) h
  injection e1 with e1 e2 e3
  subst e1 e3
  refine ⟨fun j b hj => ?_, c1, fun a ha => (b1 a ha).2.2.1⟩
  obtain ⟨g, o, e, hc⟩ := l1 j b hj
  refine ⟨g, o, e, ?_⟩
  have := hc 0 (byV b) rfl
  rw [Nat.mul_one, Nat.add_zero] at this
  exact this
theorem lies_other {α : Type} {s : Nat} {c : α → List Value} {w z : World} {sp : Option Addr} {l : List α} {b : Nat} (h : LiesL s c w sp l) (hb : ∀ a, sp = some a → a.block ≠ b) (hg : ∀ q, q ≠ b → z.heap[q]? = w.heap[q]?) : LiesL s c z sp l := fun j a hj => by
  obtain ⟨g, o, e, hc⟩ := h j a hj
  exact ⟨g, o, e, fun i v hv => (World.cell?_of_block (w := w) (a := ⟨g, o + j * s + i, none⟩) (hg g (hb _ e))).trans (hc i v hv)⟩
theorem lb_other {w z : World} {sp : Option Addr} {l : List UInt8} {b : Nat} (h : LB8 w sp l) (hb : ∀ a, sp = some a → a.block ≠ b) (hg : ∀ q, q ≠ b → z.heap[q]? = w.heap[q]?) : LB8 z sp l := fun j a hj => by
  obtain ⟨g, o, e, hc⟩ := h j a hj
  exact ⟨g, o, e, (World.cell?_of_block (w := w) (a := ⟨g, o + j, none⟩) (hg g (hb _ e))).trans hc⟩
theorem sortN_in {N : List (ByteArray × Nat)} (h : NmIn N) : ∀ x ∈ sortN N, inI x.a ∧ x.n.size ≤ 9223372036854775807 := fun x hx => by
  have hm := (List.mergeSort_perm (N.map toLa) leL).mem_iff.1 hx
  obtain ⟨p, hp, rfl⟩ := List.mem_map.1 hm
  have h1 := h p hp
  have h2 : p.1.size ≤ 16 := by
    have h9 := h1.2
    unfold isNm at h9
    simp only [decide_eq_true_eq] at h9
    exact h9.2.1
  unfold toLa inI
  simp only
  omega
theorem sheet_object (B : Nat) (q : Nu) (s : Sh) (Mm : List UInt8) (hM : Mm.length = 65536) (vl : Value) (l : List Lp) (y : World) (h : Hid (Sht B q s Mm vl l y)) (hN : NmIn s.N) (hNl : s.N.length ≤ 1000000)
    (hSo : Hid (∀ u, Below y.heap.size y u → Calls Tryd.prog 53 #[.pointer (some ⟨q.s, 0, none⟩)] u (SoE u s.N))) :
    Calls Tryd.prog 39 #[.pointer (some ⟨q.s, 0, none⟩)] y (OjE y s.U Mm s.N) := by
  have K0 : Hid (Fm y [(y.heap.size, #[.slice none 0 0, .slice none 0 0, .slice none 0 0], 26)] (y.alloc (.cells #[.slice none 0 0, .slice none 0 0, .slice none 0 0] 26))) := Fm.one y _ _
  have hMk : Hid (∀ u, Below y.heap.size y u → Calls Tryd.prog 51 #[.pointer (some ⟨q.s, 0, none⟩)] u fun e z => ∃ v, e = .returned v ∧ Hid (KL 72 3 cM u v (marksU s.U) z)) := fun u hu => marks_any' u q s.p vl s.U (h.out.bx.below hu) (h.out.u.below hu) h.out.ok.u
  have hBk : Hid (∀ u, Below y.heap.size y u → ∀ sp cap, LiesL 3 cM u sp (marksU s.U) → Calls Tryd.prog 52 #[.pointer (some ⟨q.s, 0, none⟩), .slice sp (marksU s.U).length cap] u (BkE u (blksF Mm [] (-1) (marksU s.U)))) := fun u hu sp cap hl => blocks_of u q s.p vl Mm hM (h.out.bx.below hu) (h.out.b.below hu) sp cap (marksU s.U) hl (mks_in s.U h.out.ok.u 65536 0) (mks_bounds s.U h.out.ok.u)
  have hin : Hid (∀ x ∈ blksF Mm [] (-1) (marksU s.U), 0 ≤ x.1 ∧ x.1 + (x.2.length : Int) ≤ 65536) := blks_in Mm hM (marksU s.U) [] (-1) ⟨fun x hx => (by cases hx), fun pre x e => absurd e (by simp), fun _ => rfl⟩ (mks_in s.U h.out.ok.u 65536 0)
  have hml : Hid ((marksU s.U).length ≤ 65536 ∧ (∀ m ∈ marksU s.U, MkIn m) ∧ NmIn s.N ∧ s.N.length ≤ 1000000 ∧ (blksF Mm [] (-1) (marksU s.U)).length ≤ 65536) := ⟨mks_bounds s.U h.out.ok.u, mks_in s.U h.out.ok.u 65536 0, hN, hNl, by have h1 := blks_len Mm (marksU s.U) [] (-1); have h2 := mks_bounds s.U h.out.ok.u; simp at h1; omega⟩
  have hfin : Hid (∀ (x : Oo) z, Below y.heap.size y z → Lco z x → plB x.B = blksF Mm [] (-1) (marksU s.U) → x.M = marksU s.U → x.L = sortN s.N → OjE y s.U Mm s.N (.returned (.agg (oC x))) z) := fun x z h1 h2 h3 h4 h5 => ⟨x, rfl, h1, h2, h3, h4, h5⟩
  generalize blksF Mm [] (-1) (marksU s.U) = Bl at hBk hin hml hfin
  generalize marksU s.U = Mk9 at hMk hBk hml hfin
  generalize OjE y s.U Mm s.N = Fin at hfin ⊢
  obtain ⟨M9, hM9⟩ : ∃ n, Mk9.length = n := ⟨_, rfl⟩
  obtain ⟨N9, hN9⟩ : ∃ n, s.N.length = n := ⟨_, rfl⟩
  have hMN : Hid (Mk9.length = M9 ∧ s.N.length = N9) := ⟨hM9, hN9⟩
  rw [hM9] at hBk
  unfold SoE at hSo
  rw [hN9] at hSo
  clear hM hN hNl h hM9 hN9
  go_enter Tryd.func39, Tryd.ntmps39
  go_wp2_with (first
    | ((with_reducible refine gen_world (y.alloc (.cells #[.slice none 0 0, .slice none 0 0, .slice none 0 0] 26)) (Fm y [(y.heap.size, #[.slice none 0 0, .slice none 0 0, .slice none 0 0], 26)]) ?_ ?_); exact K0.out; intro y1 K1)
    | (go_at_call 51; refine (hMk.out _ K1.out.low).mono ?_; rintro e y2 ⟨vm, rfl, HM⟩; obtain ⟨mp, mc, em, lm, bm, -, cm⟩ := OwnL.open (c := cM) (s := 3) (fun _ => rfl) HM.out.own; rw [hMN.out.1] at em; subst em; have K2 : Hid (Fm y [(y.heap.size, #[.slice none 0 0, .slice none 0 0, .slice none 0 0], 26)] y2 ∧ LiesL 3 cM y2 mp Mk9 ∧ Mk9.length ≤ mc ∧ (∀ a, mp = some a → a.block ≠ y.heap.size)) := ⟨K1.out.below HM.out.low, lm, cm, fun a ha => by have h1 := (bm a ha).2.2.1; have h2 := heap_lt (K1.out.bx 0 _ _ _ rfl); omega⟩; clear HM lm cm bm)
    | (go_at_call 52; refine (hBk.out _ K2.out.1.low mp mc K2.out.2.1).mono ?_; rintro e y3 ⟨vb, XB, rfl, HB⟩; obtain ⟨bp, bc, eb, lb, bb, -, cb⟩ := OwnL.open (c := cK) (s := 2) (fun _ => rfl) HB.out.1.o; rw [List.length_map] at eb; obtain ⟨B9, hB9⟩ : ∃ n, XB.length = n := ⟨_, rfl⟩; rw [hB9] at eb; subst eb; replace hB9 : Hid _ := hB9; have K3 : Hid (Fm y [(y.heap.size, #[.slice none 0 0, .slice none 0 0, .slice none 0 0], 26)] y3 ∧ LiesL 3 cM y3 mp Mk9 ∧ Mk9.length ≤ mc ∧ (∀ a, mp = some a → a.block ≠ y.heap.size) ∧ LiesL 2 cK y3 bp (XB.map (·.1)) ∧ (∀ a, bp = some a → a.block ≠ y.heap.size) ∧ (∀ X ∈ XB, LB8 y3 X.1.sp X.2 ∧ X.2.length = X.1.m ∧ X.1.m ≤ X.1.cap ∧ (∀ a, X.1.sp = some a → a.block ≠ y.heap.size)) ∧ plB XB = Bl) := ⟨K2.out.1.below HB.out.1.low, K2.out.2.1.below HB.out.1.low, K2.out.2.2.1, K2.out.2.2.2, lb, fun a ha => (by have h1 := (bb a ha).2.2.1; have h2 := heap_lt (K2.out.1.bx 0 _ _ _ rfl); omega), fun X hX => ⟨(lb_own (HB.out.1.r X hX).1).1, (HB.out.1.r X hX).2, (by rw [← (HB.out.1.r X hX).2]; exact (lb_own (HB.out.1.r X hX).1).2.1), fun a ha => (by have h1 := (lb_own (HB.out.1.r X hX).1).2.2 a ha; have h2 := heap_lt (K2.out.1.bx 0 _ _ _ rfl); omega)⟩, HB.out.2⟩; clear HB lb cb bb)
    | (go_at_call 53; refine (hSo.out _ K3.out.1.low).mono ?_; rintro e y4 ⟨lp, lc, rfl, HS⟩; have K4 : Hid (Fm y [(y.heap.size, #[.slice none 0 0, .slice none 0 0, .slice none 0 0], 26)] y4 ∧ Below y3.heap.size y3 y4 ∧ LiesL 2 cLa y4 lp (sortN s.N) ∧ ∀ a, lp = some a → a.block ≠ y.heap.size) := ⟨K3.out.1.below HS.out.1, HS.out.1, HS.out.2.1, fun a ha => (by have h1 := HS.out.2.2.2 a ha; have h2 := heap_lt (K3.out.1.bx 0 _ _ _ rfl); omega)⟩; clear HS)
    | ((with_reducible refine at_st rtO y.heap.size #[.slice none 0 0, .slice none 0 0, .slice none 0 0] #[.slice bp B9 bc, .slice mp M9 mc, .slice lp N9 lc] ?_ ?_ ?_ ?_ (.tmp 2) (.tmp 12) ?_ ?_ ?_ ?_ ?_); exact K4.out.1.bx 0 _ _ _ rfl; rfl; rfl; simp [Value.oneCell']; rfl; rfl; rfl; rfl; intro y5 hw5; have K5 : Hid (Fm y [(y.heap.size, #[.slice bp B9 bc, .slice mp M9 mc, .slice lp N9 lc], 26)] y5 ∧ ∀ q, q ≠ y.heap.size → y5.heap[q]? = y4.heap[q]?) := ⟨K4.out.1.put 0 _ _ _ _ rfl hw5.out, hw5.out.2.2⟩; clear hw5))
  have hx : #[Value.slice bp B9 bc, .slice mp M9 mc, .slice lp N9 lc] = oC ⟨bp, bc, XB, mp, mc, Mk9, lp, lc, sortN s.N⟩ := by
    unfold oC
    simp only
    rw [hB9.out, hMN.out.1, show (sortN s.N).length = N9 by unfold sortN; rw [List.length_mergeSort, List.length_map, hMN.out.2]]
  have K5' := K5.out.1.bx 0 _ _ _ rfl
  rw [hx] at K5'
  refine ret_row rtO rfl rfl K5' rfl rfl (hfin.out _ _ K5.out.1.low ⟨⟨?_, ?_, ?_, fun X hX => ?_, fun X hX => ?_, fun m hm => ?_, sortN_in hml.out.2.2.1, ⟨?_, ?_, ?_⟩⟩, fun X hX => ?_, ?_⟩ K3.out.2.2.2.2.2.2.2 rfl rfl)
  · exact lies_other (K3.out.2.2.2.2.1.below K4.out.2.1) K3.out.2.2.2.2.2.1 K5.out.2
  · exact lies_other (K3.out.2.1.below K4.out.2.1) K3.out.2.2.2.1 K5.out.2
  · exact lies_other K4.out.2.2.1 K4.out.2.2.2 K5.out.2
  · have h1 := K3.out.2.2.2.2.2.2.1 X hX
    exact ⟨lb_other (h1.1.below K4.out.2.1) h1.2.2.2 K5.out.2, h1.2.1⟩
  · have h1 := K3.out.2.2.2.2.2.2.1 X hX
    have h2 := hin.out (X.1.a, X.2) (by rw [← K3.out.2.2.2.2.2.2.2]; exact List.mem_map_of_mem hX)
    simp only at h2
    unfold inI
    rw [← h1.2.1]
    omega
  · have h1 := hml.out.2.1 m hm
    unfold MkIn at h1
    unfold inI
    omega
  · show XB.length ≤ _
    have h1 := congrArg List.length K3.out.2.2.2.2.2.2.2
    unfold plB at h1
    rw [List.length_map] at h1
    have := hml.out.2.2.2.2
    omega
  · show Mk9.length ≤ _
    have := hml.out.1
    omega
  · show (sortN s.N).length ≤ _
    unfold sortN
    rw [List.length_mergeSort, List.length_map]
    have := hml.out.2.2.2.1
    omega
  · exact (K3.out.2.2.2.2.2.2.1 X hX).2.2.1
  · exact K3.out.2.2.1
end Go.Proofs.YtkpfhnogpcigaaaDoorR
