/- Rows of values of any kind: an append of several. -/
import Derived.Test.YtfdikiafbfljaaaDoorLw
namespace Go.Proofs.YtfdikiafbfljaaaDoor
open Go Go.RowKit
set_option linter.unusedVariables false
set_option maxHeartbeats 400000
set_option maxRecDepth 20000

section
variable {α : Type} {T t : TypeId} {s bts : Nat} {c : α → List Value}
/-- What an append of several values leaves. -/
structure AppNL (t : TypeId) (s : Nat) (c : α → List Value) (B : Nat) (v : Value) (l us : List α) (v' : Value) (w w' : World) : Prop where
  own : OwnL t s c B w' v' (l ++ us)
  new : ∀ g, v'.ownBlock = some g → v.ownBlock = some g ∨ w.heap.size ≤ g
  cu : CuL B (fun g j => v.ownBlock = some g ∧ l.length * s ≤ j) w w'
theorem AppNL.grew {B : Nat} {v : Value} {l us : List α} {v' : Value} {w w' : World} (hB : B ≤ w.heap.size) (h1 : w'.ownsRow w.heap.size t s v' (l.length + us.length) (rowL c l ++ rowL c us)) (h2 : w.grownBy w' none) : AppNL t s c B v l us v' w w' := by
  have ho : OwnL t s c w.heap.size w' v' (l ++ us) := by
    unfold OwnL
    rw [rowL_app, List.length_append]
    exact h1
  exact ⟨ho.weak hB, fun g hg => .inr (ho.lt g hg).1, CuL.of_below ⟨h2.os, h2.tape, h2.output, h2.size, fun k hk => h2.block k hk (by simp)⟩ hB⟩
/-- The cells of a row that lies. -/
theorem LiesL.cells (hc : ∀ x, (c x).length = s) (hs : 0 < s) {x : World} {g o : Nat} {l : List α} (h : LiesL s c x (some ⟨g, o, none⟩) l) (j : Nat) (u : Value) (hj : (rowL c l)[j]? = some u) : x.cell? ⟨g, o + j, none⟩ = some u := by
  have hlt : j < l.length * s := by
    have := (List.getElem?_eq_some_iff.1 hj).1
    rwa [rowL_len hc] at this
  have hd : j / s < l.length := (Nat.div_lt_iff_lt_mul hs).2 hlt
  have hm : j % s < s := Nat.mod_lt _ hs
  have e : j / s * s + j % s = j := by rw [Nat.mul_comm]; exact Nat.div_add_mod j s
  have ha : l[j / s]? = some l[j / s] := List.getElem?_eq_getElem hd
  obtain ⟨gb, ob, e1, k⟩ := h _ _ ha
  cases e1
  have := k (j % s) u (by rw [← rowL_at hc l (j / s) (j % s) _ ha hm, e]; exact hj)
  rwa [Nat.add_assoc, e] at this
theorem at_appNL (K : KdL T t s bts c) {ops : Array Oper} {rest : List Oper} {o : Oper} {a : Act} {w : World} {Q : Exit → Act → World → Prop} (hgd : o.guard = none) (sl x : Operand)
    (ho : o.op = .call { callee := .builtin .append, args := #[sl, x], argTypes := #[T, T] }) (B : Nat) (v : Value) (l : List α) (hs : a.eval sl = v) (hown : OwnL t s c B w v l)
    (g0 o0 m cm : Nat) (us : List α) (hm : us.length = m) (hx : a.eval x = .slice (some ⟨g0, o0, none⟩) m cm) (hu : LiesL s c w (some ⟨g0, o0, none⟩) us) (hm0 : 0 < m) (hn : l.length + m ≤ 100000000000) (hB : B ≤ w.heap.size)
    (k : ∀ v' w', Hid (AppNL t s c B v l us v' w w') → wpList Tryd.prog ops Q rest (a.put o.dst v') w') : wpList Tryd.prog ops Q (o :: rest) a w := by
  subst hm
  obtain ⟨i, z, hi, hz0, hz1, hz2, hz3⟩ := K.i
  have hc : ∀ j u', (rowL c us)[j]? = some u' → w.cell? ((⟨g0, o0, none⟩ : Addr).add j) = some u' := fun j u' h => by
    rw [Addr.add_lit]
    exact hu.cells K.len K.s0 j u' h
  have hnews : ∀ y ∈ rowL c us, y.oneCell' = true := rowL_cell K.one us
  have b1 : l.length + us.length ≤ maxLen := by unfold maxLen; omega
  have b2 : (l.length + us.length) * bts ≤ 140737488355328 := Nat.le_trans (Nat.mul_le_mul hn K.b0) (by decide)
  have hul : (rowL c us).length = us.length * s := rowL_len K.len us
  have hown' := hown
  obtain ⟨hl, hor⟩ := hown
  have hlen := rowL_len K.len l
  rcases hor with ⟨rfl, hn0⟩ | ⟨g, cap, cur, rfl, hbg, hg, hnc, hcm, hcs, htake⟩
  · have hl0 : l = [] := List.eq_nil_of_length_eq_zero hn0
    subst hl0
    refine wpList_append_grows w hgd sl x T ho t i z s bts K.u hi hz0 hz1 hz2 hz3 K.s0 none 0 0 [] hs (fun _ => ⟨rfl, rfl⟩) (by simp) (fun b hb => by cases hb) ⟨g0, o0, none⟩ us.length cm (rowL c us) hx hul hc hnews (by omega) b1 b2 ?_
    intro v' w' r1 r2
    exact k v' w' (AppNL.grew hB r1 r2)
  · by_cases hr : l.length + us.length ≤ cap
    · have hfit : l.length * s + us.length * s ≤ cur.size := by
        rw [hcs, ← Nat.add_mul]
        exact Nat.mul_le_mul_right s hr
      refine wpList_append_arg w hgd sl x T ho t i z s bts K.u hi hz0 hz1 hz2 hz3 K.s0 g 0 l.length cap (rowL c l) hs hl ?_ ⟨g0, o0, none⟩ us.length cm (rowL c us) hx hul hc hnews ?_ b1 b2 ?_ (fun h => absurd hr (by omega))
      · intro j u' hj
        have := World.ownsRow.cells (g := g) hown' rfl j u' hj
        rwa [Addr.add_lit] at this
      · intro _ j hj
        rw [hul] at hj
        refine ⟨?_, frozen_heap hg _⟩
        rw [cell_heap hg, Array.getElem?_eq_getElem (by omega)]
        rfl
      · intro _
        refine k _ _ ?_
        have e0 : 0 + l.length * s = l.length * s := by omega
        rw [e0]
        refine ⟨⟨by rw [rowL_len K.len], .inr ⟨g, cap, _, by rw [List.length_append], hbg, heapL_setCells g _ _ _ w cur hg (by rw [hul]; omega), by rw [List.length_append]; exact hr, hcm, ?_, ?_⟩⟩, fun g' h => .inl h, ?_⟩
        · have := length_splice cur.toList (l.length * s) (rowL c us) (by rw [hul, Array.length_toList]; omega)
          rw [List.size_toArray, this, Array.length_toList, hcs]
        · rw [rowL_app, List.length_append]
          unfold splice
          rw [← List.append_assoc, htake, List.take_append_of_le_length (by rw [List.length_append, hlen, hul, Nat.add_mul]; omega)]
          exact List.take_of_length_le (by rw [List.length_append, hlen, hul, Nat.add_mul]; omega)
        · exact (setCellsL_cu B g _ hbg _ w).mono fun g' j _ hF => ⟨by rw [hF.1]; rfl, hF.2.1⟩
    · have hcells := World.ownsRow.cells (g := g) hown' rfl
      refine wpList_append_grows w hgd sl x T ho t i z s bts K.u hi hz0 hz1 hz2 hz3 K.s0 (some ⟨g, 0, none⟩) l.length cap (rowL c l) hs (fun h => by cases h) hl (fun b hb => by cases hb; exact hcells) ⟨g0, o0, none⟩ us.length cm (rowL c us) hx hul hc hnews (by omega) b1 b2 ?_
      intro v' w' r1 r2
      exact k v' w' (AppNL.grew hB r1 r2)
theorem KL.addN {w y w' : World} {v v' : Value} {l us : List α} (h : KL t s c w v l y) (a : AppNL t s c w.heap.size v l us v' y w') : KL t s c w v' (l ++ us) w' := ⟨a.own, h.low.trans a.cu.low⟩
end
end Go.Proofs.YtfdikiafbfljaaaDoor
