/- Blocks that are put together of bytes: each with a row of its own. -/
import Derived.Test.YthbdpceobnkflaaDoorJ16
import Derived.Test.YthbdpceobnkflaaDoorJ17
import Derived.Deep.DeepAppendRoom
import Derived.ArgAppend
namespace Go.Proofs.YthbdpceobnkflaaDoor
open Go Go.RowKit
set_option linter.unusedVariables false
set_option maxHeartbeats 3000000
set_option maxRecDepth 20000

section
variable {α : Type} {T t : TypeId} {s bts : Nat} {c : α → List Value}
/-- An append of several values, as a run: where the new row lies, too. -/
theorem run_appN (K : KdL T t s bts c) (w : World) (B : Nat) (v : Value) (l us : List α) (ty : TypeId) (hown : OwnL t s c B w v l) (p : Option Addr) (n cm : Nat) (hm : us.length = n) (hu : LiesL s c w p us) (h0 : 0 < n) (hn : l.length + n ≤ 4000000000) (hB : B ≤ w.heap.size) :
    ∃ v' w', (Builtin.append_ #[T, T] ty #[v, .slice p n cm]).run Tryd.prog w = .ok v' w' ∧ OwnL t s c B w' v' (l ++ us) ∧ w.grownBy w' v.ownBlock ∧ ∀ g, v'.ownBlock = some g → v.ownBlock = some g ∨ w.heap.size ≤ g := by
  subst hm
  have hor := hown.2
  rcases hor with ⟨rfl, hn0⟩ | ⟨g, cap, cur, rfl, hbg, hg, hnc, hcm, hcs, htake⟩
  · have hl0 : l = [] := List.eq_nil_of_length_eq_zero hn0
    subst hl0
    obtain ⟨v', w', h1, h2, h3⟩ := run_appM K w w.heap.size (.slice none 0 0) [] us ty (OwnL.nil _ _) p us.length cm rfl hu hn (Nat.le_refl _)
    exact ⟨v', w', h1, h2.weak hB, h3, fun g hg => .inr (h2.lt g hg).1⟩
  · obtain ⟨g0, o0, rfl, _⟩ := hu 0 _ (List.getElem?_eq_getElem h0)
    obtain ⟨i, z, hi, hz0, hz1, hz2, hz3⟩ := K.i
    have hc : ∀ j u', (rowL c us)[j]? = some u' → w.cell? ((⟨g0, o0, none⟩ : Addr).add j) = some u' := fun j u' h => by
      rw [Addr.add_lit]
      exact hu.cells K.len K.s0 j u' h
    by_cases hr : l.length + us.length ≤ cap
    · obtain ⟨w', h1, h2, h3⟩ := run_append_own_spare (P := Tryd.prog) w B T ty t i s K.u hi hz1 g l.length cap (rowL c l) hown ⟨g0, o0, none⟩ us.length cm (rowL c us) (rowL_len K.len us) hc (rowL_cell K.one us) hr
      refine ⟨_, w', h1, ?_, h3, fun g' h => .inl h⟩
      unfold OwnL
      rw [rowL_app, List.length_append]
      exact h2
    · have hcells := World.ownsRow.cells (g := g) hown rfl
      obtain ⟨v', w', h1, h2, h3⟩ := run_append_arg_grows (P := Tryd.prog) w T ty t i z s bts K.u hi hz0 hz1 hz2 hz3 K.s0 ⟨g, 0, none⟩ l.length cap (rowL c l) (rowL_len K.len l) hcells ⟨g0, o0, none⟩ us.length cm (rowL c us) (rowL_len K.len us) hc (by omega) (by unfold maxLen; omega) (Nat.le_trans (Nat.mul_le_mul (show l.length + us.length ≤ 4000000000 by omega) K.b0) (by decide))
      have h4 : OwnL t s c w.heap.size w' v' (l ++ us) := by
        unfold OwnL
        rw [rowL_app, List.length_append]
        exact h2
      exact ⟨v', w', h1, h4.weak hB, ⟨h3.os, h3.tape, h3.output, h3.size, fun k hk _ => h3.block k hk (by simp)⟩, fun g' hg' => .inr (h4.lt g' hg').1⟩
end
/-- The block of a row of bytes. -/
def ownX (X : Bb) : Option Nat := (Value.slice X.1.sp X.1.m X.1.cap).ownBlock
/-- Blocks that the call has made, each with its own bytes. -/
structure Bls (y : World) (v : Value) (XB : List Bb) (z : World) : Prop where
  low : Below y.heap.size y z
  o : OwnL 46 2 cK y.heap.size z v (XB.map (·.1))
  r : ∀ X ∈ XB, OwnL 5 1 cU y.heap.size z (.slice X.1.sp X.1.m X.1.cap) X.2 ∧ X.2.length = X.1.m
  ne : ∀ (i j : Nat) (X Y : Bb) (g : Nat), XB[i]? = some X → XB[j]? = some Y → ownX X = some g → ownX Y = some g → i = j
theorem Bls.nil (y : World) : Bls y (.slice none 0 0) [] y := ⟨Below.refl _ _, OwnL.nil _ _, fun X h => (by cases h), fun i j X Y g h => (by simp at h)⟩
theorem Bls.below {y : World} {v : Value} {XB : List Bb} {z z' : World} (h : Bls y v XB z) (k : Below z.heap.size z z') : Bls y v XB z' := ⟨of_below h.low k, h.o.below k, fun X hX => ⟨(h.r X hX).1.below k, (h.r X hX).2⟩, h.ne⟩
/-- A new block, without bytes. -/
theorem Bls.push {y : World} {v v' : Value} {XB : List Bb} {z z1 : World} {o : Obj} {a : Int} (h : Bls y v XB z) (A : App1L 46 2 cK y.heap.size v (XB.map (·.1)) ⟨a, none, 0, 0⟩ v' (z.alloc o) z1) : Bls y v' (XB ++ [(⟨a, none, 0, 0⟩, [])]) z1 := by
  have keep : ∀ (g : Nat) (cs : Array Value), Bx z g cs 5 → Bx z1 g cs 5 := fun g cs hb => by
    have h1 : Bx (z.alloc o) g cs 5 := hb.below (below1 z o)
    refine (A.cu.blk g (heap_lt h1) fun j hF => ?_).trans h1
    obtain ⟨c9, h9⟩ := h.o.ty g hF.1
    have := hb.symm.trans h9
    simp at this
  have kr : ∀ (u : Value) (L : List UInt8), OwnL 5 1 cU y.heap.size z u L → OwnL 5 1 cU y.heap.size z1 u L := fun u L hu => hu.keepB fun g e => by
    obtain ⟨c9, h9⟩ := hu.ty g e
    exact (keep g c9 h9).trans h9.symm
  refine ⟨(h.low.alloc h.low.size o).trans A.cu.low, by rw [List.map_append]; exact A.own, fun X hX => ?_, fun i j X Y g hi hj ei ej => ?_⟩
  · rcases List.mem_append.1 hX with hX | hX
    · exact ⟨kr _ _ (h.r X hX).1, (h.r X hX).2⟩
    · rw [List.mem_singleton.1 hX]
      exact ⟨OwnL.nil _ _, rfl⟩
  · have key : ∀ (i : Nat) (X : Bb), (XB ++ [((⟨a, none, 0, 0⟩ : Bk), ([] : List UInt8))])[i]? = some X → ownX X = some g → XB[i]? = some X := fun i X hi ei => by
      rcases Nat.lt_or_ge i XB.length with hlt | hge
      · rw [List.getElem?_append_left hlt] at hi; exact hi
      · rw [List.getElem?_append_right hge] at hi
        exfalso
        have : i - XB.length = 0 := by
          have := (List.getElem?_eq_some_iff.1 hi).1
          simp at this
          omega
        rw [this] at hi
        simp at hi
        rw [← hi] at ei
        simp [ownX, Value.ownBlock] at ei
    exact h.ne i j X Y g (key i X hi ei) (key j Y hj ej) ei ej
/-- One cell of a row of blocks. -/
theorem own_cell1 {B : Nat} {w : World} {g n cap : Nat} {l : List Bk} (h : OwnL 46 2 cK B w (.slice (some ⟨g, 0, none⟩) n cap) l) (k : Nat) (b : Bk) (hk : l[k]? = some b) (sp : Option Addr) (m cp : Nat) :
    w.cell? ⟨g, k * 2 + 1, none⟩ = some (.slice b.sp b.m b.cap) ∧ w.frozen? ⟨g, k * 2 + 1, none⟩ = false ∧ B ≤ g ∧ OwnL 46 2 cK B (w.setCell ⟨g, k * 2 + 1, none⟩ (.slice sp m cp)) (.slice (some ⟨g, 0, none⟩) n cap) (l.set k ⟨b.a, sp, m, cp⟩) := by
  have hkl := (List.getElem?_eq_some_iff.1 hk).1
  obtain ⟨hl, hor⟩ := h
  rcases hor with ⟨e, _⟩ | ⟨g', cap', cur, hv, hbg, hg, hnc, hcm, hcs, htake⟩
  · cases e
  · cases hv
    have hlen := rowL_len kBk.len l
    have hat : (rowL cK l)[k * 2 + 1]? = some (.slice b.sp b.m b.cap) := by
      rw [rowL_at kBk.len l k 1 b hk (by decide)]
      rfl
    have hcur : cur[k * 2 + 1]? = some (.slice b.sp b.m b.cap) := by
      have h9 : (cur.toList.take (l.length * 2))[k * 2 + 1]? = some (.slice b.sp b.m b.cap) := by rw [htake]; exact hat
      rw [List.getElem?_take] at h9
      split at h9
      · simpa using h9
      · cases h9
    refine ⟨(cell_heap hg _).trans hcur, frozen_heap hg _, hbg, by rw [rowL_len kBk.len], .inr ⟨g, cap, cur.setIfInBounds (k * 2 + 1) (.slice sp m cp), by rw [List.length_set], hbg, heap_setCell_same w g (k * 2 + 1) cur _ _ hg, by rw [List.length_set]; exact hnc, hcm, by simpa using hcs, ?_⟩⟩
    rw [List.length_set, rowL_set kBk.len l k _ hkl, Array.toList_setIfInBounds, ← htake]
    apply List.ext_getElem?
    intro j
    have hcl : (cur.toList.take (l.length * 2)).length = l.length * 2 := by rw [htake, hlen]
    rw [List.getElem?_take, List.getElem?_set, spliceL_at _ _ _ (by rw [kBk.len, hcl]; omega), kBk.len, List.getElem?_take]
    have h0 : cur.toList[k * 2]? = some (.int .i64 b.a) := by
      have h9 : (cur.toList.take (l.length * 2))[k * 2]? = some (.int .i64 b.a) := by
        rw [htake]
        have := rowL_at kBk.len l k 0 b hk (by decide)
        rw [Nat.add_zero] at this
        rw [this]
        rfl
      rw [List.getElem?_take, if_pos (by omega)] at h9
      exact h9
    have hsz : k * 2 + 1 < cur.toList.length := by
      have := (Array.getElem?_eq_some_iff.1 hcur).1
      simpa using this
    by_cases h1 : j < l.length * 2
    · rw [if_pos h1]
      by_cases h2 : k * 2 + 1 = j
      · subst h2
        rw [if_pos rfl, if_pos hsz, if_pos ⟨by omega, by omega⟩, show k * 2 + 1 - k * 2 = 1 by omega]
        rfl
      · rw [if_neg h2]
        by_cases h3 : k * 2 = j
        · subst h3
          rw [if_pos ⟨by omega, by omega⟩, Nat.sub_self, h0]
          rfl
        · rw [if_neg (by omega), if_pos h1]
    · rw [if_neg h1, if_neg (by omega), if_neg h1]
/-- Bytes put behind those of the last block. -/
theorem Bls.grow {y : World} {g n cap : Nat} {pre : List Bb} {X : Bb} {z z1 : World} {sp : Option Addr} {m cp : Nat} {L : List UInt8} (h : Bls y (.slice (some ⟨g, 0, none⟩) n cap) (pre ++ [X]) z) (h1 : OwnL 5 1 cU y.heap.size z1 (.slice sp m cp) (X.2 ++ L)) (hg : z.grownBy z1 (ownX X)) (hn : ∀ g', (Value.slice sp m cp).ownBlock = some g' → ownX X = some g' ∨ z.heap.size ≤ g') (hm : (X.2 ++ L).length = m) :
    z1.cell? ⟨g, pre.length * 2 + 1, none⟩ = some (.slice X.1.sp X.1.m X.1.cap) ∧ z1.frozen? ⟨g, pre.length * 2 + 1, none⟩ = false ∧ Bls y (.slice (some ⟨g, 0, none⟩) n cap) (pre ++ [(⟨X.1.a, sp, m, cp⟩, X.2 ++ L)]) (z1.setCell ⟨g, pre.length * 2 + 1, none⟩ (.slice sp m cp)) := by
  have hX := h.r X (by simp)
  have o1 : OwnL 46 2 cK y.heap.size z1 (.slice (some ⟨g, 0, none⟩) n cap) ((pre ++ [X]).map (·.1)) := own_grown hX.1 h.o (by decide) hg
  have hk : ((pre ++ [X]).map (·.1))[pre.length]? = some X.1 := by simp
  obtain ⟨q1, q2, q3, q4⟩ := own_cell1 o1 pre.length X.1 hk sp m cp
  obtain ⟨cs, hb⟩ := o1.ty g rfl
  have hlow : Below y.heap.size y z1 := ⟨hg.os.trans h.low.os, hg.tape.trans h.low.tape, hg.output.trans h.low.output, Nat.le_trans h.low.size hg.size, fun k hk => (hg.block k (Nat.lt_of_lt_of_le hk h.low.size) fun e => by have := (hX.1.lt k e.symm).1; omega).trans (h.low.block k hk)⟩
  have go : ∀ q, q ≠ g → (z1.setCell ⟨g, pre.length * 2 + 1, none⟩ (.slice sp m cp)).heap[q]? = z1.heap[q]? := fun q hq => heap_setCell_other z1 ⟨g, pre.length * 2 + 1, none⟩ q _ hq
  have kr : ∀ (u : Value) (L : List UInt8), OwnL 5 1 cU y.heap.size z1 u L → OwnL 5 1 cU y.heap.size (z1.setCell ⟨g, pre.length * 2 + 1, none⟩ (.slice sp m cp)) u L := fun u L hu => own_other hb (by decide) go hu
  refine ⟨q1, q2, hlow.setCell (p := ⟨g, pre.length * 2 + 1, none⟩) q3 _, ?_, fun Y hY => ?_, fun i j Y Z g' hi hj ei ej => ?_⟩
  · have e : ((pre ++ [X]).map (·.1)).set pre.length ⟨X.1.a, sp, m, cp⟩ = (pre ++ [((⟨X.1.a, sp, m, cp⟩ : Bk), X.2 ++ L)]).map (·.1) := by
      rw [List.map_append, List.map_append, List.set_append_right _ _ (by rw [List.length_map]; exact Nat.le_refl _)]
      simp
    rw [← e]
    exact q4
  · rcases List.mem_append.1 hY with hY | hY
    · obtain ⟨i, hi, ei⟩ := List.getElem_of_mem hY
      have hY2 := h.r Y (by simp [hY])
      refine ⟨kr _ _ (hY2.1.keepB fun g' e => hg.block g' (hY2.1.lt g' e).2 fun e9 => ?_), hY2.2⟩
      have := h.ne i pre.length Y X g' (by rw [List.getElem?_append_left hi, List.getElem?_eq_getElem hi, ei]) (by simp) e e9.symm
      omega
    · rw [List.mem_singleton.1 hY]
      exact ⟨kr _ _ h1, hm⟩
  · have key : ∀ (i : Nat) (Y : Bb), (pre ++ [((⟨X.1.a, sp, m, cp⟩ : Bk), X.2 ++ L)])[i]? = some Y → ownX Y = some g' → (i = pre.length ∧ (ownX X = some g' ∨ z.heap.size ≤ g')) ∨ (i < pre.length ∧ (pre ++ [X])[i]? = some Y ∧ g' < z.heap.size) := fun i Y hi ei => by
      rcases Nat.lt_or_ge i pre.length with hlt | hge
      · rw [List.getElem?_append_left hlt] at hi
        refine .inr ⟨hlt, by rw [List.getElem?_append_left hlt]; exact hi, ?_⟩
        exact ((h.r Y (by simp [List.mem_of_getElem? hi])).1.lt g' ei).2
      · have e0 : i = pre.length := by
          have := (List.getElem?_eq_some_iff.1 hi).1
          simp at this
          omega
        subst e0
        rw [List.getElem?_append_right (Nat.le_refl _), Nat.sub_self] at hi
        simp at hi
        rw [← hi] at ei
        exact .inl ⟨rfl, hn g' ei⟩
    rcases key i Y hi ei with ⟨e1, e2⟩ | ⟨e1, e2, e3⟩ <;> rcases key j Z hj ej with ⟨f1, f2⟩ | ⟨f1, f2, f3⟩
    · omega
    · rcases e2 with e2 | e2
      · have := h.ne pre.length j X Z g' (by simp) f2 e2 ej
        omega
      · omega
    · rcases f2 with f2 | f2
      · have := h.ne i pre.length Y X g' e2 (by simp) ei f2
        omega
      · omega
    · exact h.ne i j Y Z g' e2 f2 ei ej
end Go.Proofs.YthbdpceobnkflaaDoor
