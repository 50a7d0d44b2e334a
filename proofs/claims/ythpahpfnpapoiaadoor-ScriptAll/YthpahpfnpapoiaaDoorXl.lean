/- The statements' own look at lists that came out: each its owner's, written full and grown. -/
import Derived.Test.YthpahpfnpapoiaaDoorXk
namespace Go.Proofs.YthpahpfnpapoiaaDoor
open Go Go.RowKit
set_option linter.unusedVariables false
set_option maxHeartbeats 1000000
set_option maxRecDepth 20000

theorem infoL : (Tryd.prog.info? 23).map (fun i => (i.zero, i.size, i.bytes)) = some (some (.slice none 0 0), 1, 24) := by kernel_rfl
theorem bxL {z : World} {g : Nat} {vs : List Value} (h : Bx z g vs.toArray 23) (j : Nat) (v : Value) (hj : vs[j]? = some v) : z.cell? ⟨g, j, none⟩ = some v := by rw [cell_heap h, List.getElem?_toArray]; exact hj
theorem idxL (g m cap j : Nat) (h : j < m) (v : World) : (Instr.indexAt 45 (.slice (some ⟨g, 0, none⟩) m cap) (.int .i64 (j : Int))).run Tryd.prog v = .ok (.pointer (some ⟨g, j, none⟩)) v := by
  have := idxP (g := g) (off := 0) (len := m) (cap := cap) Tryd.underlying45 (s := 1) (by kernel_rfl) .i64 j v h
  rw [Nat.zero_add, Nat.mul_one] at this
  exact this
theorem idxZ (g n cap k : Nat) (h : k < n) (v : World) : (Instr.indexAt 23 (.slice (some ⟨g, 0, none⟩) n cap) (.int .i64 (k : Int))).run Tryd.prog v = .ok (.pointer (some ⟨g, k * 10, none⟩)) v := by
  have := idxP (g := g) (off := 0) (len := n) (cap := cap) Tryd.underlying23 (s := 10) (by kernel_rfl) .i64 k v h
  rw [Nat.zero_add] at this
  exact this
theorem OwnS.ty {B : Nat} {w : World} {v : Value} {l : List Sn} (h : OwnS B w v l) {g : Nat} (hg : v.ownBlock = some g) {c : Array Value} (hc : w.heap[g]? = some (.cells c 23 (0, 0))) : False := by
  rcases h.2 with ⟨h0, _⟩ | ⟨g', cap, cur, hv, hB, hg', _⟩
  · subst h0; simp [Value.ownBlock] at hg
  · subst hv
    simp [Value.ownBlock] at hg
    subst hg
    rw [hg'] at hc
    injection hc with hc
    injection hc with _ hc
    exact absurd hc (by decide)
theorem some_list {α : Type} {l : List α} {m i : Nat} (h : l.length = m) (hi : i < m) : ∃ a, l[i]? = some a := ⟨_, List.getElem?_eq_getElem (by omega)⟩
theorem len_map {X Y : List (List Sn)} (h : Y.map List.length = X.map List.length) {j : Nat} {x y : List Sn} (hx : X[j]? = some x) (hy : Y[j]? = some y) : y.length = x.length := by
  have := congrArg (·[j]?) h
  simp [hx, hy] at this
  exact this
/-- Behind the writing of the first i lists. -/
structure Ow (y0 : World) (B gl : Nat) (vs : List Value) (X : List (List Sn)) (i : Nat) (Y : List (List Sn)) (z : World) : Prop where
  fam : Fam B z vs Y
  lens : Y.map List.length = X.map List.length
  mkd : ∀ (j : Nat) (y : List Sn), j < i → Y[j]? = some y → ∀ s ∈ y, s.c = -1 - (j : Int)
  bl : Bx z gl vs.toArray 23
  low : Below B y0 z
/-- The list i, its first k spans written. -/
def Wr (i k : Nat) (Y : List (List Sn)) : Prop := ∃ y, Y[i]? = some y ∧ ∀ (t : Nat) (s : Sn), t < k → y[t]? = some s → s.c = -1 - (i : Int)
theorem Ow.put {y0 : World} {B gl : Nat} {vs : List Value} {X Y : List (List Sn)} {i k g n cap : Nat} {z : World} (h : Ow y0 B gl vs X i Y z) (hw : Wr i k Y) (hi : vs[i]? = some (.slice (some ⟨g, 0, none⟩) n cap)) (y : List Sn) (hy : Y[i]? = some y) (hk : k < y.length) :
    (Ow y0 B gl vs X i (Y.set i (y.set k ⟨-1 - (i : Int), zeroA⟩)) (z.setCells g (k * 10) (spC ⟨-1 - (i : Int), zeroA⟩).toList) ∧ Wr i (k + 1) (Y.set i (y.set k ⟨-1 - (i : Int), zeroA⟩))) ∧ z.there g (k * 10) (spC ⟨-1 - (i : Int), zeroA⟩).size := by
  have ho := h.fam.own i _ y hi hy
  obtain ⟨o1, o2, o3⟩ := ho.set k hk ⟨-1 - (i : Int), zeroA⟩
  have hg : gl ≠ g := fun e => by subst e; exact ho.ty (by rfl) h.bl
  refine ⟨⟨⟨h.fam.put i hi hy k hk _, ?_, fun j y' hj e => ?_, (setCells_other g gl hg _ _ _).trans h.bl, h.low.trans (setCells_below B g o3 _ _ _)⟩, ?_⟩, o2⟩
  · rw [← h.lens, List.map_set, List.length_set]
    exact set_id (by simp [hy])
  · rcases set_get e with ⟨rfl, _⟩ | ⟨_, e⟩
    · omega
    · exact h.mkd j y' hj e
  · obtain ⟨y', e1, e2⟩ := hw
    rw [hy] at e1
    cases e1
    refine ⟨_, List.getElem?_set_self (List.getElem?_eq_some_iff.1 hy).1, fun t s ht hs => ?_⟩
    rcases set_get hs with ⟨_, rfl⟩ | ⟨hne, hs⟩
    · rfl
    · exact e2 t s (by omega) hs
/-- Behind the growing of the first i lists. -/
structure Gw (y0 : World) (B gl Bg : Nat) (vs cur : List Value) (X : List (List Sn)) (Y : List (List Sn)) (gr : Value) (G : List Value) (z : World) : Prop where
  fam : Fam B z cur Y
  mkd : ∀ (j : Nat) (y : List Sn), Y[j]? = some y → ∀ s ∈ y, s.c = -1 - (j : Int)
  bl : Bx z gl vs.toArray 23
  low : Below B y0 z
  go : z.ownsRow Bg 23 1 gr G.length G
  hg : gl < Bg ∧ B ≤ Bg ∧ Bg ≤ z.heap.size
  sz : ∀ (j : Nat) (y : List Sn), Y[j]? = some y → y.length ≤ 2000000
theorem Gw.grow {y0 : World} {B gl Bg i : Nat} {vs cur : List Value} {X Y : List (List Sn)} {gr v v' : Value} {G : List Value} {z w' : World} {y : List Sn} {o : Obj} (h : Gw y0 B gl Bg vs cur X Y gr G z) (hi : cur[i]? = some v) (hy : Y[i]? = some y) (hl : y.length < 2000000) (a : App1 B v y ⟨-1 - (i : Int), zeroA⟩ v' (z.alloc o) w') :
    Gw y0 B gl Bg vs (cur.set i v') X (Y.set i (y ++ [⟨-1 - (i : Int), zeroA⟩])) gr G w' := by
  have ho := h.fam.own i v y hi hy
  have hb := below1 z o
  have keep : ∀ (q : Nat) (c : Array Value), z.heap[q]? = some (.cells c 23 (0, 0)) → w'.heap[q]? = z.heap[q]? := fun q c hq => by
    have hlt := heap_lt hq
    rw [← hb.block q hlt]
    exact a.cu.blk q (by simp; omega) fun j hF => ho.ty hF.1 hq
  have hsz := a.cu.low.size
  refine ⟨h.fam.app i hi a, fun j y' e s hs => ?_, (keep gl _ h.bl).trans h.bl, (h.low.trans (hb.mono (by have := h.hg; omega))).trans a.cu.low, ⟨h.go.1, ?_⟩, ⟨h.hg.1, h.hg.2.1, by have := h.hg.2.2; simp at hsz; omega⟩, fun j y' e => ?_⟩
  · rcases set_get e with ⟨rfl, rfl⟩ | ⟨_, e⟩
    · rcases List.mem_append.1 hs with hs | hs
      · exact h.mkd _ y hy s hs
      · simp at hs; rw [hs]
    · exact h.mkd j y' e s hs
  · rcases h.go.2 with h0 | ⟨q, cap, c, hv, hB, hq, hr⟩
    · exact .inl h0
    · exact .inr ⟨q, cap, c, hv, hB, (keep q c hq).trans hq, hr⟩
  · rcases set_get e with ⟨rfl, rfl⟩ | ⟨_, e⟩
    · simp; omega
    · exact h.sz j y' e
theorem Gw.note {y0 : World} {B gl Bg : Nat} {vs cur : List Value} {X Y : List (List Sn)} {gr gr' v : Value} {G : List Value} {z w' : World} {o : Obj} (h : Gw y0 B gl Bg vs cur X Y gr G z) (ho : w'.ownsRow Bg 23 1 gr' (G.length + 1) (G ++ [v])) (hg : (z.alloc o).grownBy w' gr.ownBlock) :
    Gw y0 B gl Bg vs cur X Y gr' (G ++ [v]) w' := by
  have hb := below1 z o
  have hlt : ∀ q, gr.ownBlock = some q → Bg ≤ q ∧ ∃ c, z.heap[q]? = some (.cells c 23 (0, 0)) := fun q e => by
    rcases h.go.2 with ⟨h0, _⟩ | ⟨q', cap, c, hv, hB, hq, hr⟩
    · rw [h0] at e; simp [Value.ownBlock] at e
    · rw [hv] at e
      simp [Value.ownBlock] at e
      subst e
      exact ⟨hB, c, hq⟩
  have hG : Bg ≤ z.heap.size := h.hg.2.2
  have hbel : Below B z w' := (hb.mono (by have := h.hg; omega)).trans ⟨hg.os, hg.tape, hg.output, hg.size, fun k hk => hg.block k (by simp; have := h.hg; omega) (fun e => by have := (hlt k e.symm).1; have := h.hg; omega)⟩
  refine ⟨⟨h.fam.len, fun j u x e1 e2 => ?_, h.fam.ap⟩, h.mkd, ?_, h.low.trans hbel, by rw [List.length_append]; exact ho, ⟨h.hg.1, h.hg.2.1, by have := hbel.size; omega⟩, h.sz⟩
  · have hown := h.fam.own j u x e1 e2
    refine ⟨hown.1, ?_⟩
    rcases hown.2 with h0 | ⟨g, cap, c, hv, hB, hq, hr⟩
    · exact .inl h0
    · refine .inr ⟨g, cap, c, hv, hB, ?_, hr⟩
      have hl := heap_lt hq
      rw [hg.block g (by simp; omega) (fun e => by
        obtain ⟨_, c', hc'⟩ := hlt g e.symm
        exact hown.ty (by rw [hv]; rfl) hc'), hb.block g hl]
      exact hq
  · have hl := heap_lt h.bl
    show w'.heap[gl]? = _
    rw [hg.block gl (by simp; omega) (fun e => by have := (hlt gl e.symm).1; have := h.hg.1; omega), hb.block gl hl]
    exact h.bl
end Go.Proofs.YthpahpfnpapoiaaDoor
