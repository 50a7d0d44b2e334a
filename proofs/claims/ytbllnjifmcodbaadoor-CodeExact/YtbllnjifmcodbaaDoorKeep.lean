/- The law's own book: a new entry is kept. -/
import Derived.Test.YtbllnjifmcodbaaDoorWhole
import Derived.Laws.AppendOwnNone
import Derived.Deep.RegionLaw
import Derived.Deep.RegionLawGrows
namespace Go.Proofs.YtbllnjifmcodbaaDoor
open Go.RowKit
set_option linter.unusedVariables false
set_option maxHeartbeats 1000000
set_option maxRecDepth 20000

theorem step_append_own {P : Program} {ops : Array Oper} {o : Oper} {a : Act} {w : World} {K : Act → World → Prop} {Q : Exit → Act → World → Prop} {E : Prop}
    (hg : o.guard = none) (s x : Operand) (t : TypeId) (hop : o.op = Op.call { callee := Callee.builtin Builtin.append, args := #[s, x], argTypes := #[t, t] })
    (base : Nat) (e : TypeId) (i : TypeInfo) (z : Value) (size bytes : Nat) (ht : P.underlying t = some (.slice e)) (hi : P.info? e = some i) (hz : i.zero = some z) (hsize : i.size = size) (hby : i.bytes = bytes) (hzs : z.cells.size = size) (hsz : 0 < size)
    (v : Value) (n : Nat) (xs : List Value) (hs : a.eval s = v) (hown : w.ownsRow base e size v n xs)
    (ad : Addr) (m c : Nat) (news : List Value) (hx : a.eval x = .slice (some ad) m c) (hl : news.length = m * size) (hnews : ∀ j u, news[j]? = some u → w.cell? (ad.add j) = some u) (h1 : ∀ u ∈ news, u.oneCell' = true)
    (h63 : n + m ≤ maxLen) (hbytes : (n + m) * bytes ≤ 140737488355328) (hbase : base ≤ w.heap.size)
    (h : ∀ v' w', w'.ownsRow base e size v' (n + m) (xs ++ news) → w.grownBy w' v.ownBlock → (v' = .slice none 0 0 ↔ v = .slice none 0 0 ∧ m = 0) → K (a.put o.dst v') w') :
    if Region.wanted o (yielded ops a.tmps) = true then Oper.wp P o a w K Q else E := by
  have hw : Region.wanted o (yielded ops a.tmps) = true := by simp [Region.wanted, hg]
  rw [if_pos hw]
  exact wp_append_own w s x t hop base e i z size bytes ht hi hz hsize hby hzs hsz v n xs hs hown ad m c news hx hl hnews h1 h63 hbytes hbase h

/-- Blocks of bytes stay. -/
def P5 (w w' : World) : Prop := ∀ (b : Nat) (cs : Array Value), w.heap[b]? = some (.cells cs 5 (0, 0)) → w'.heap[b]? = some (.cells cs 5 (0, 0))
theorem P5.trans {a b c : World} (h : P5 a b) (k : P5 b c) : P5 a c := fun q cs hq => k q cs (h q cs hq)
theorem P5.below {a b : World} (h : Below a.heap.size a b) : P5 a b := fun q cs hq => (h.block q (Array.getElem?_eq_some_iff.1 hq).1).trans hq
theorem P5.set {w : World} {kb j : Nat} {u : Value} {cs : Array Value} {t : TypeId} (h : w.heap[kb]? = some (.cells cs t (0, 0))) (ht : t ≠ 5) : P5 w (w.setCell ⟨kb, j, none⟩ u) := fun q us hq => by
  have hne : q ≠ kb := fun e => by subst e; rw [h] at hq; simp at hq; exact ht hq.2
  exact (heap_setCell_other w ⟨kb, j, none⟩ q u hne).trans hq
theorem grown_at {w w' : World} {B : Nat} {v : Value} {n : Nat} {xs : List Value} (hown : w.ownsRow B 37 1 v n xs) (hg : w.grownBy w' v.ownBlock) {q t : Nat} {cs : Array Value} (hq : w.heap[q]? = some (.cells cs t (0, 0))) (ht : t ≠ 37) : w'.heap[q]? = some (.cells cs t (0, 0)) := by
  refine (hg.block q (Array.getElem?_eq_some_iff.1 hq).1 fun e => ?_).trans hq
  rcases hown.2 with ⟨rfl, _⟩ | ⟨g, cap, cur, rfl, _, h3, _⟩
  · simp [Value.ownBlock] at e
  · simp [Value.ownBlock] at e
    subst e
    rw [h3] at hq
    simp at hq
    exact ht hq.2.symm
theorem TOk.mono {w w' : World} {B : Nat} {e : En} (h : TOk w B e) (hp : P5 w w') : TOk w' B e := by
  obtain ⟨h3, h⟩ := h
  rcases h with h | ⟨b, h1, h2, h4⟩
  · exact ⟨h3, .inl h⟩
  · exact ⟨h3, .inr ⟨b, h1, h2, hp b _ h4⟩⟩
theorem WOk.mono {w w' : World} {B : Nat} {e : En} (h : WOk w B e) (hp : P5 w w') : WOk w' B e := by
  obtain ⟨g, cap, cur, h1, h2, h3, h4⟩ := h
  exact ⟨g, cap, cur, h1, h2, hp g _ h3, h4⟩

/-- Two rows that differ at their head lie in two blocks. -/
theorem rows_apart {w : World} {B n m : Nat} {v u : Value} {xs ys : List Value} (hv : w.ownsRow B 37 1 v n xs) (hu : w.ownsRow B 37 1 u m ys) (hn : 1 ≤ n) (hm : 1 ≤ m) (hne : xs[0]? ≠ ys[0]?) : v.ownBlock ≠ u.ownBlock := by
  rcases hv.2 with ⟨_, h0⟩ | ⟨g, cap, cur, rfl, _, h3, _, _, _, h5⟩
  · omega
  rcases hu.2 with ⟨_, h0⟩ | ⟨g', cap', cur', rfl, _, h3', _, _, _, h5'⟩
  · omega
  intro e
  simp [Value.ownBlock] at e
  subst e
  rw [h3] at h3'
  simp at h3'
  subst h3'
  apply hne
  rw [← h5, ← h5', List.getElem?_take, List.getElem?_take, if_pos (by omega), if_pos (by omega)]

/-- The book. -/
structure Bk (w : World) (B kb : Nat) (es : List En) (T V : Value) : Prop where
  book : w.heap[kb]? = some (.cells #[T, V] 45 (0, 0))
  told : w.ownsRow B 37 1 T es.length (es.map En.tv)
  want : w.ownsRow B 37 1 V es.length (es.map En.wv)
  nil : es = [] → T = .slice none 0 0 ∧ V = .slice none 0 0
  ok : ∀ (j : Nat) (e : En), es[j]? = some e → TOk w B e ∧ WOk w B e ∧ e.tv ≠ e.wv
  lt : ∀ (i j : Nat) (e e' : En), i < j → es[i]? = some e → es[j]? = some e' → Lt e e'

theorem Bk.below {w w' : World} {B kb : Nat} {es : List En} {T V : Value} (h : Bk w B kb es T V) (hb : Below w.heap.size w w') : Bk w' B kb es T V := by
  have kp : ∀ v n xs, w.ownsRow B 37 1 v n xs → w'.ownsRow B 37 1 v n xs := fun v n xs hv => by
    refine ⟨hv.1, ?_⟩
    rcases hv.2 with hn | ⟨g, cap, cur, h1, h2, h3, rest⟩
    · exact .inl hn
    · exact .inr ⟨g, cap, cur, h1, h2, (hb.block g (Array.getElem?_eq_some_iff.1 h3).1).trans h3, rest⟩
  exact ⟨(hb.block kb (Array.getElem?_eq_some_iff.1 h.book).1).trans h.book, kp _ _ _ h.told, kp _ _ _ h.want, h.nil, fun j e he => ⟨(h.ok j e he).1.mono (P5.below hb), (h.ok j e he).2.1.mono (P5.below hb), (h.ok j e he).2.2⟩, h.lt⟩
end Go.Proofs.YtbllnjifmcodbaaDoor
