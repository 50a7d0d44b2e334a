/- A list in a box of its own, and what a call answers put behind it; a function that leaves with marks. -/
import Derived.Test.YtdfjfacilbahkabDoorQj
import Derived.Test.YtdfjfacilbahkabDoorQi
namespace Go.Proofs.YtdfjfacilbahkabDoor
open Go Go.RowKit Go.Shelf
set_option linter.unusedVariables false
set_option maxHeartbeats 2000000
set_option maxRecDepth 20000

section
variable {α : Type} {T t : TypeId} {s bts : Nat} {c : α → List Value}
theorem run_appL (K : KdL T t s bts c) (w : World) (B : Nat) (v : Value) (l : List α) (ty : TypeId) (hown : OwnL t s c B w v l) (g0 : Nat) (u : α) (hu : Bx w g0 (c u).toArray t) (hn : l.length ≤ 4000000000) (hB : B ≤ w.heap.size) :
    ∃ v' w', (Builtin.append_ #[T, T] ty #[v, .slice (some ⟨g0, 0, none⟩) 1 1]).run Tryd.prog w = .ok v' w' ∧ OwnL t s c B w' v' (l ++ [u]) ∧ w.grownBy w' v.ownBlock := by
  obtain ⟨i, z, hi, hz0, hz1, hz2, hz3⟩ := K.i
  have hc : ∀ j u', (c u)[j]? = some u' → w.cell? ((⟨g0, 0, none⟩ : Addr).add j) = some u' := fun j u' h => by
    rw [Addr.add_lit, Nat.zero_add]
    exact hu.c j u' (by simpa using h)
  obtain ⟨v', w', h1, h2, h3, -⟩ := run_append_own (P := Tryd.prog) w B T ty t i z s bts K.u hi hz0 hz1 hz2 hz3 K.s0 v l.length (rowL c l) hown ⟨g0, 0, none⟩ 1 1 (c u) (by rw [K.len, Nat.one_mul]) hc (K.one u) (by unfold maxLen; omega) (Nat.le_trans (Nat.mul_le_mul (show l.length + 1 ≤ 4000000001 by omega) K.b0) (by decide)) hB
  refine ⟨v', w', h1, ?_, h3⟩
  unfold OwnL
  rw [rowL_app, List.length_append, rowL_one]
  exact h2
/-- A list in a box of its own. -/
def Ho (T t : TypeId) (s : Nat) (c : α → List Value) (n0 bo : Nat) (l : List α) (W : World) : Prop := ∃ v, Bx W bo #[v] T ∧ OwnL t s c n0 W v l
theorem Ho.own {β : Type} (T t : TypeId) (s : Nat) (c : α → List Value) (n0 bo : Nat) (f : List β → List α) : Own (fun pre W => Ho T t s c n0 bo (f pre) W) := fun pre W W' row ⟨v, h1, h2⟩ hg hr => by
  obtain ⟨v', k1, k2, -⟩ := holdsRow_own (β := List β) n0 bo T t s (fun pre => (f pre).length) (fun pre => rowL c (f pre)) (fun _ _ => True) pre W W' row ⟨v, h1, h2, trivial⟩ hg hr
  exact ⟨v', k1, k2⟩
theorem Ho.put {n0 bo : Nat} {W2 : World} {v v' : Value} {l' : List α} (ho : OwnL t s c n0 W2 v' l') (hk : Bx W2 bo #[v] T) (hne : T ≠ t) : Ho T t s c n0 bo l' (W2.setCell ⟨bo, 0, none⟩ v') := by
  refine ⟨v', ?_, ho.keepB fun g e => ?_⟩
  · exact heap_setCell_same W2 bo 0 #[v] T v' hk
  · obtain ⟨cs, hg⟩ := ho.ty g e
    exact heap_setCell_other W2 ⟨bo, 0, none⟩ g v' (fun e' => hk.unlike hg hne e'.symm)
/-- What stands behind a call's answer put behind a list in a box. -/
structure Put1 (T t : TypeId) (s : Nat) (c : α → List Value) (n0 bo : Nat) (l : List α) (P : α) (v : Value) (W z1 : World) (v' : Value) (z2 : World) : Prop where
  run : ∀ ty, (Builtin.append_ #[T, T] ty #[v, .slice (some ⟨z1.heap.size, 0, none⟩) 1 1]).run Tryd.prog (z1.alloc (.cells (c P).toArray t)) = .ok v' z2
  b1 : Bx z1 bo #[v] T
  ba : Bx (z1.alloc (.cells (c P).toArray t)) bo #[v] T
  b2 : Bx z2 bo #[v] T
  ho : Ho T t s c n0 bo (l ++ [P]) (z2.setCell ⟨bo, 0, none⟩ v')
  oth : KeepsOthers W (z2.setCell ⟨bo, 0, none⟩ v')
  low : Below n0 W (z2.setCell ⟨bo, 0, none⟩ v')
  sl : ∃ sp m cap, v' = .slice sp m cap
theorem Ho.step (K : KdL T t s bts c) (hne : T ≠ t) {n0 bo : Nat} {l : List α} {v : Value} {W z1 : World} (hb : Bx W bo #[v] T) (ho : OwnL t s c n0 W v l) (h1 : Below W.heap.size W z1) (P : α) (hn : l.length ≤ 4000000000) (h0 : n0 ≤ W.heap.size) (hbo : n0 ≤ bo) : ∃ v' z2, Put1 T t s c n0 bo l P v W z1 v' z2 := by
  have b1 : Bx z1 bo #[v] T := (h1.block bo (heap_lt hb)).trans hb
  have o1 : OwnL t s c n0 z1 v l := ho.below h1
  have ba : Bx (z1.alloc (.cells (c P).toArray t)) bo #[v] T := ((below1 _ _).block bo (heap_lt b1)).trans b1
  have oa : OwnL t s c n0 (z1.alloc (.cells (c P).toArray t)) v l := o1.alloc _
  have key : ∀ ty, ∃ v' w', (Builtin.append_ #[T, T] ty #[v, .slice (some ⟨z1.heap.size, 0, none⟩) 1 1]).run Tryd.prog (z1.alloc (.cells (c P).toArray t)) = .ok v' w' ∧ OwnL t s c n0 w' v' (l ++ [P]) ∧ (z1.alloc (.cells (c P).toArray t)).grownBy w' v.ownBlock := fun ty =>
    run_appL K _ n0 v l ty oa z1.heap.size P (bx1 _ _ _) hn (by have := h1.size; simp; omega)
  obtain ⟨v', z2, hr, o2, hg⟩ := key 0
  have b2 : Bx z2 bo #[v] T := by
    refine (hg.block bo (heap_lt ba) fun e => ?_).trans ba
    obtain ⟨cs, h⟩ := oa.ty bo e.symm
    exact ba.unlike h hne rfl
  have lowA : Below n0 W z2 := ((h1.alloc h1.size _).mono h0).trans ((Below.refl n0 _).grown hg (by have := h1.size; simp; omega) (fun k e => (oa.lt k e).1))
  have othA : KeepsOthers W z2 := by
    refine KeepsOthers.trans (B := z1.alloc (.cells (c P).toArray t)) ?_ ?_
    · have hb := h1.alloc h1.size (.cells (c P).toArray t)
      exact ⟨hb.size, fun k o hk _ => (hb.block k (heap_lt hk)).trans hk⟩
    · refine ⟨hg.size, fun k o hk ho' => (hg.block k (heap_lt hk) fun e => ?_).trans hk⟩
      obtain ⟨cs, h⟩ := oa.ty k e.symm
      rw [show (z1.alloc (.cells (c P).toArray t)).heap[k]? = _ from h] at hk
      cases hk
      cases ho'
  obtain ⟨sp, cap, hs, -⟩ := o2.open K.len
  refine ⟨v', z2, fun ty => ?_, b1, ba, b2, Ho.put o2 b2 hne, othA.trans (KeepsOthers.setCell _ _ _), lowA.trans ((Below.refl n0 z2).setCell (p := ⟨bo, 0, none⟩) hbo _), ⟨sp, _, cap, hs⟩⟩
  exact hr
end
/-- Marks that a function leaves with. -/
def marks (Ds : List Nat) : List Deferred := Ds.map fun D => { target := .collected D, args := #[] }
theorem leaves_marks {F : Fence} {n : Nat} {P : Program} {fn : Func} {tmps : Array Value} {R : Ending → World → Prop} (n0 : Nat) : ∀ (Ds : List Nat) (W : World), Ds.Nodup → (∀ D ∈ Ds, W.heap[D]? = some (.deferred (some [])) ∧ n0 ≤ D) →
    (∀ W', Below n0 W W' → (∀ q, q ∉ Ds → W'.heap[q]? = W.heap[q]?) → LeavesInM F n P fn tmps R [] .returning W') → LeavesInM F n P fn tmps R (marks Ds) .returning W := by
  intro Ds
  induction Ds with
  | nil => intro W _ _ h; exact h W (Below.refl _ _) (fun _ _ => rfl)
  | cons D Ds ih =>
    intro W hn hd h
    obtain ⟨hD, hlo⟩ := hd D (by simp)
    rw [List.nodup_cons] at hn
    refine ⟨by simp, .inl ⟨D, _, rfl, run_takeDeferred hD, ?_⟩⟩
    have hb : Below n0 W (W.putObj D (.deferred none)) := (Below.refl n0 W).grown (grownBy_putObj' W D _) (by have := heap_lt hD; omega) (fun k e => by cases e; exact hlo)
    have oth : ∀ q, q ≠ D → (W.putObj D (.deferred none)).heap[q]? = W.heap[q]? := fun q hq => World.putObj_heap_other (by omega)
    refine ih _ hn.2 (fun D' h' => ⟨(oth D' fun e => hn.1 (e ▸ h')).trans (hd D' (by simp [h'])).1, (hd D' (by simp [h'])).2⟩) fun W' b1 b2 => h W' (hb.trans b1) fun q hq => ?_
    simp only [List.mem_cons, not_or] at hq
    exact (b2 q hq.2).trans (oth q hq.1)
end Go.Proofs.YtdfjfacilbahkabDoor
