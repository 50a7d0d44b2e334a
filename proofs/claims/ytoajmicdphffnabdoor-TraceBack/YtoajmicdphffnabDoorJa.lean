/- Rows of bytes that are their owner's, side by side; whether two rows are alike. -/
import Derived.Test.YtoajmicdphffnabDoorKn
namespace Go.Proofs.YtoajmicdphffnabDoor
open Go Go.RowKit
set_option linter.unusedVariables false
set_option maxHeartbeats 2000000
set_option maxRecDepth 20000

/-- What an append of one value leaves. -/
structure ApB (B : Nat) (v : Value) (n : Nat) (xs : List Value) (u v' : Value) (w w' : World) : Prop where
  own : w'.ownsRow B 5 1 v' (n + 1) (xs ++ [u])
  new : ∀ g, v'.ownBlock = some g → v.ownBlock = some g ∨ w.heap.size ≤ g
  cu : Cu B (fun g j => v.ownBlock = some g ∧ n ≤ j) w w'
theorem ownsB_weak {w : World} {B B' n : Nat} {v : Value} {xs : List Value} (h : w.ownsRow B 5 1 v n xs) (hB : B' ≤ B) : w.ownsRow B' 5 1 v n xs := by
  refine ⟨h.1, ?_⟩
  rcases h.2 with hn | ⟨g, cap, cur, h1, h2, h3⟩
  · exact .inl hn
  · exact .inr ⟨g, cap, cur, h1, Nat.le_trans hB h2, h3⟩
theorem ApB.grew {B : Nat} {v : Value} {n : Nat} {xs : List Value} {u v' : Value} {w w' : World} (hB : B ≤ w.heap.size) (h1 : w'.ownsRow w.heap.size 5 1 v' (n + 1) (xs ++ [u])) (h2 : w.grownBy w' none) : ApB B v n xs u v' w w' :=
  ⟨ownsB_weak h1 hB, fun g hg => .inr (h1.lt g hg).1, Cu.of_below ⟨h2.os, h2.tape, h2.output, h2.size, fun k hk => h2.block k hk (by simp)⟩ hB⟩
theorem at_apB {ops : Array Oper} {rest : List Oper} {o : Oper} {a : Act} {w : World} {Q : Exit → Act → World → Prop} (hgd : o.guard = none) (s x : Operand)
    (ho : o.op = .call { callee := .builtin .append, args := #[s, x], argTypes := #[23, 23] }) (B : Nat) (v : Value) (n : Nat) (xs : List Value) (hs : a.eval s = v) (hown : w.ownsRow B 5 1 v n xs)
    (g0 : Nat) (u : Value) (hx : a.eval x = .slice (some ⟨g0, 0, none⟩) 1 1) (hu : w.cell? ⟨g0, 0, none⟩ = some u) (h1 : u.oneCell' = true) (hn : n ≤ 100000000) (hB : B ≤ w.heap.size)
    (k : ∀ v' w', Hid (ApB B v n xs u v' w w') → wpList Tryd.prog ops Q rest (a.put o.dst v') w') : wpList Tryd.prog ops Q (o :: rest) a w := by
  obtain ⟨i, hi, hz0, hz1, hz2⟩ := info_parts infoB
  have hc : ∀ j u', [u][j]? = some u' → w.cell? ((⟨g0, 0, none⟩ : Addr).add j) = some u' := fun j u' h => by
    cases j with
    | zero => simp at h; subst h; exact hu
    | succ j => simp at h
  have hnews : ∀ y ∈ [u], y.oneCell' = true := fun y hy => by simp at hy; subst hy; exact h1
  have b1 : n + 1 ≤ maxLen := by unfold maxLen; omega
  have b2 : (n + 1) * 1 ≤ 140737488355328 := by omega
  have hown' := hown
  obtain ⟨hl, hor⟩ := hown
  rcases hor with ⟨rfl, rfl⟩ | ⟨g, cap, cur, rfl, hbg, hg, hnc, hcm, hcs, htake⟩
  · obtain rfl : xs = [] := List.eq_nil_of_length_eq_zero (by simpa using hl)
    refine wpList_append_grows w hgd s x 23 ho 5 i _ 1 1 Tryd.underlying23 hi hz0 hz1 hz2 rfl (by decide) none 0 0 [] hs (fun _ => ⟨rfl, rfl⟩) rfl (fun b hb => by cases hb) ⟨g0, 0, none⟩ 1 1 [u] hx rfl hc hnews (by decide) b1 b2 ?_
    intro v' w' r1 r2
    exact k v' w' (ApB.grew hB r1 r2)
  · by_cases hr : n + 1 ≤ cap
    · have hlt : n < cur.size := by omega
      refine wpList_append_arg w hgd s x 23 ho 5 i _ 1 1 Tryd.underlying23 hi hz0 hz1 hz2 rfl (by decide) g 0 n cap xs hs hl ?_ ⟨g0, 0, none⟩ 1 1 [u] hx rfl hc hnews ?_ b1 b2 ?_ (fun h => absurd hr (by omega))
      · intro j u' hj
        have := hown'.cells (g := g) rfl j u' hj
        rwa [Addr.add_lit] at this
      · intro _ j hj
        simp at hj
        subst hj
        refine ⟨?_, frozen_heap hg _⟩
        rw [cell_heap hg]
        simp [hlt]
      · intro _
        refine k _ _ ?_
        have e0 : 0 + n * 1 = n := by omega
        rw [e0]
        have hset := heap_setCell_same w g n cur 5 u hg
        refine ⟨⟨by simp [hl], .inr ⟨g, cap, cur.setIfInBounds n u, rfl, hbg, hset, hr, hcm, by simp [hcs], ?_⟩⟩, fun g' h => .inl h, ⟨(Below.refl B w).setCell (p := ⟨g, n, none⟩) hbg u, fun g' j hg' hF => ?_, fun g' hg' hF => ?_⟩⟩
        · rw [Nat.mul_one] at htake ⊢
          rw [Array.toList_setIfInBounds, List.take_set, List.take_add_one, htake]
          have hxl : xs.length = n := by simpa using hl
          rw [Array.getElem?_toList, Array.getElem?_eq_getElem hlt]
          simp only [Option.toList_some]
          rw [List.set_append_right _ _ (by omega), hxl, Nat.sub_self]
          rfl
        · have := World.cell?_setCells_out g [u] n w ⟨g', j, none⟩ (fun hb _ => by
            simp only [List.length_cons, List.length_nil]
            rcases Nat.lt_or_ge j n with h | h
            · exact .inl h
            · exact absurd ⟨by rw [show g' = g from hb]; rfl, h⟩ hF)
          exact this
        · exact heap_setCell_other w ⟨g, n, none⟩ g' u fun e => hF n ⟨by rw [show g' = g from e]; rfl, Nat.le_refl _⟩
    · have hcells := hown'.cells (g := g) rfl
      refine wpList_append_grows w hgd s x 23 ho 5 i _ 1 1 Tryd.underlying23 hi hz0 hz1 hz2 rfl (by decide) (some ⟨g, 0, none⟩) n cap xs hs (fun h => by cases h) hl (fun b hb => by cases hb; exact hcells) ⟨g0, 0, none⟩ 1 1 [u] hx rfl hc hnews (by omega) b1 b2 ?_
      intro v' w' r1 r2
      exact k v' w' (ApB.grew hB r1 r2)
def OwnB (B : Nat) (w : World) (v : Value) (l : List UInt8) : Prop := w.ownsRow B 5 1 v l.length (l.map byV)
theorem OwnB.keep {B : Nat} {x y : World} {v : Value} {l : List UInt8} (h : OwnB B x v l) (hF : ∀ g, v.ownBlock = some g → y.heap[g]? = x.heap[g]?) : OwnB B y v l := by
  refine ⟨h.1, ?_⟩
  rcases h.2 with h0 | ⟨g, cap, cur, hv, hb, hg, hr⟩
  · exact .inl h0
  · exact .inr ⟨g, cap, cur, hv, hb, (hF g (by rw [hv]; rfl)).trans hg, hr⟩
theorem OwnB.below {B : Nat} {x y : World} {v : Value} {l : List UInt8} (h : OwnB B x v l) (hb : Below x.heap.size x y) : OwnB B y v l := h.keep fun g e => hb.block g (World.ownsRow.lt h g e).2
theorem OwnB.set {B : Nat} {w : World} {g n cap : Nat} {l : List UInt8} (h : OwnB B w (.slice (some ⟨g, 0, none⟩) n cap) l) (k : Nat) (hk : k < l.length) (z : UInt8) : OwnB B (w.setCell ⟨g, k, none⟩ (byV z)) (.slice (some ⟨g, 0, none⟩) n cap) (l.set k z) ∧ (∃ u, w.cell? ⟨g, k, none⟩ = some (.int .u8 u)) ∧ w.frozen? ⟨g, k, none⟩ = false ∧ B ≤ g := by
  obtain ⟨h1, h2⟩ := id h
  rcases h2 with ⟨h0, _⟩ | ⟨g', cap', cur, hv, hb, hg, hn, hm, hs, ht⟩
  · simp at h0
  · simp at hv
    obtain ⟨rfl, hn', rfl⟩ := hv
    have hc := World.ownsRow.cells (g := g) h (by simp [Value.ownBlock]) k (byV l[k]) (by simp [hk])
    rw [Addr.add_lit, Nat.zero_add] at hc
    refine ⟨⟨by simp, .inr ⟨g, cap, cur.setIfInBounds k (byV z), by simp [hn'], hb, heap_setCell_same w g k cur _ _ hg, by simpa using hn, hm, by simpa using hs, ?_⟩⟩, ⟨_, hc⟩, frozen_heap hg k, hb⟩
    rw [Array.toList_setIfInBounds, List.take_set, List.length_set, ht]
    simp [List.map_set]
theorem OwnB.open {B : Nat} {w : World} {v : Value} {l : List UInt8} (h : OwnB B w v l) : ∃ sp cap, v = .slice sp l.length cap ∧ (∀ j, j < l.length → ∃ g, sp = some ⟨g, 0, none⟩) ∧ LiesB w sp l := by
  rcases h.2 with ⟨h0, hn⟩ | ⟨g, cap, cur, hv, _, hg, _⟩
  · refine ⟨none, 0, by rw [h0, hn], fun j hj => by omega, fun j b hj => ?_⟩
    have := (List.getElem?_eq_some_iff.1 hj).1
    omega
  · refine ⟨_, cap, hv, fun j _ => ⟨g, rfl⟩, fun j b hj => ⟨g, 0, rfl, ?_⟩⟩
    have := World.ownsRow.cells (g := g) h (by rw [hv]; rfl) j (byV b) (by simp [hj])
    rwa [Addr.add_lit] at this
theorem conv_nil (w : World) (cap : Nat) : (convert 23 9 (.slice none 0 cap)).run Tryd.prog w = .ok (.string ⟨#[]⟩) w := by kernel_rfl
/-- Bytes that lie in a row, as a string. -/
theorem LiesB.conv {w : World} {sp : Option Addr} {l : List UInt8} (h : LiesB w sp l) (cap : Nat) : (convert 23 9 (.slice sp l.length cap)).run Tryd.prog w = .ok (.string ⟨l.toArray⟩) w := by
  have key : ∀ a : Addr, (∀ j (hj : j < l.length), w.cell? (a.add j) = some (byV l[j])) → (convert 23 9 (.slice (some a) l.length cap)).run Tryd.prog w = .ok (.string ⟨l.toArray⟩) w := fun a hc =>
    run_convert_bytes_back (P := Tryd.prog) w 23 9 5 a cap l Tryd.underlying23 Tryd.underlying5 Tryd.underlying9 (fun j hj => hc j hj)
  cases sp with
  | none =>
    have : l = [] := by
      cases l with
      | nil => rfl
      | cons a r => obtain ⟨g, o, e, _⟩ := h 0 a rfl; cases e
    subst this
    exact conv_nil w cap
  | some a =>
    refine key a fun j hj => ?_
    obtain ⟨g, o, e, c⟩ := h j _ (List.getElem?_eq_getElem hj)
    cases e
    rw [Addr.add_lit]
    exact c
theorem sameB_any (w : World) (pa pb : Option Addr) (ca cb : Nat) (a b : List UInt8) (ha : LiesB w pa a) (hb : LiesB w pb b) : Calls Tryd.prog 9 #[.slice pa a.length ca, .slice pb b.length cb] w fun e w' => e = .returned (.bool (a == b)) ∧ w' = w := by
  have c1 := ha.conv ca
  have c2 := hb.conv cb
  obtain ⟨sa, hsa⟩ : ∃ x : ByteArray, (⟨a.toArray⟩ : ByteArray) = x := ⟨_, rfl⟩
  obtain ⟨sb, hsb⟩ : ∃ x : ByteArray, (⟨b.toArray⟩ : ByteArray) = x := ⟨_, rfl⟩
  obtain ⟨q, hq⟩ : ∃ q, (sa.toList == sb.toList) = q := ⟨_, rfl⟩
  have fin : (a == b) = q := by
    rw [← hq, toL, toL, ← hsa, ← hsb]
    simp [strL]
  rw [hsa] at c1
  rw [hsb] at c2
  rw [fin]
  generalize a.length = n at c1 ⊢
  generalize b.length = m at c2 ⊢
  clear hsa hsb fin ha hb
  go_enter Tryd.func9, Tryd.ntmps9
  go_wp2
  go_ret
  exact ⟨by first | rfl | simp, by first | rfl | trivial⟩
/-- Three rows of bytes, the first of which no one else has. -/
structure P3 (B : Nat) (va vb vc : Value) (la l : List UInt8) (y : World) : Prop where
  a : OwnB B y va la
  b : OwnB B y vb l
  c : OwnB B y vc l
  ab : ∀ g, va.ownBlock = some g → vb.ownBlock ≠ some g
  ac : ∀ g, va.ownBlock = some g → vc.ownBlock ≠ some g
theorem P3.below {B : Nat} {va vb vc : Value} {la l : List UInt8} {y z : World} (h : P3 B va vb vc la l y) (hb : Below y.heap.size y z) : P3 B va vb vc la l z := ⟨h.a.below hb, h.b.below hb, h.c.below hb, h.ab, h.ac⟩
theorem P3.set {B g n cap : Nat} {vb vc : Value} {la l : List UInt8} {y : World} (h : P3 B (.slice (some ⟨g, 0, none⟩) n cap) vb vc la l y) (k : Nat) (hk : k < la.length) (z : UInt8) : P3 B (.slice (some ⟨g, 0, none⟩) n cap) vb vc (la.set k z) l (y.setCell ⟨g, k, none⟩ (byV z)) :=
  ⟨(h.a.set k hk z).1, h.b.keep fun q e => heap_setCell_other y ⟨g, k, none⟩ q _ fun e2 => h.ab q (by rw [show q = g from e2]; rfl) e, h.c.keep fun q e => heap_setCell_other y ⟨g, k, none⟩ q _ fun e2 => h.ac q (by rw [show q = g from e2]; rfl) e, h.ab, h.ac⟩
theorem P3.app {B : Nat} {va vb vc va' : Value} {la l : List UInt8} {y w' : World} {o : Obj} {z : UInt8} (h : P3 B va vb vc la l y) (a : ApB B va la.length (la.map byV) (byV z) va' (y.alloc o) w') : P3 B va' vb vc (la ++ [z]) l w' := by
  have h1 := h.below (below1 y o)
  refine ⟨?_, h1.b.keep fun q e => a.cu.blk q (World.ownsRow.lt h1.b q e).2 fun j hF => h.ab q hF.1 e, h1.c.keep fun q e => a.cu.blk q (World.ownsRow.lt h1.c q e).2 fun j hF => h.ac q hF.1 e, fun q e1 e2 => ?_, fun q e1 e2 => ?_⟩
  · have := a.own
    unfold OwnB
    rw [List.length_append, List.map_append]
    exact this
  · rcases a.new q e1 with e3 | e3
    · exact h.ab q e3 e2
    · have := (World.ownsRow.lt h1.b q e2).2; omega
  · rcases a.new q e1 with e3 | e3
    · exact h.ac q e3 e2
    · have := (World.ownsRow.lt h1.c q e2).2; omega
theorem one_byte (x : World) (u : Value) : (x.alloc (.cells #[u] 5)).cell? ⟨x.heap.size, 0, none⟩ = some u := by unfold World.cell? World.alloc; simp
end Go.Proofs.YtoajmicdphffnabDoor
