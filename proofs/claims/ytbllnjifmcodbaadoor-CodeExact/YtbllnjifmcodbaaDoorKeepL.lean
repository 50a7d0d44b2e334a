/- The law's own book: what each step of keeping leaves. -/
import Derived.Test.YtbllnjifmcodbaaDoorKeep
namespace Go.Proofs.YtbllnjifmcodbaaDoor
open Go.RowKit
set_option linter.unusedVariables false
set_option maxHeartbeats 400000

theorem owns_set {w : World} {B kb j n : Nat} {u v : Value} {xs : List Value} {cs : Array Value} (h : w.ownsRow B 37 1 v n xs) (hk : w.heap[kb]? = some (.cells cs 45 (0, 0))) : (w.setCell ⟨kb, j, none⟩ u).ownsRow B 37 1 v n xs := by
  refine ⟨h.1, ?_⟩
  rcases h.2 with hn | ⟨g, cap, cur, h1, h2, h3, rest⟩
  · exact .inl hn
  · have hne : g ≠ kb := fun e => by subst e; rw [hk] at h3; simp at h3
    exact .inr ⟨g, cap, cur, h1, h2, (heap_setCell_other w ⟨kb, j, none⟩ g u hne).trans h3, rest⟩
theorem alloc_at {w : World} {o : Obj} {q t : Nat} {cs : Array Value} (h : w.heap[q]? = some (.cells cs t (0, 0))) : (w.alloc o).heap[q]? = some (.cells cs t (0, 0)) := (Below.heap_alloc w o q (Array.getElem?_eq_some_iff.1 h).1).trans h
theorem P5.alloc (w : World) (o : Obj) : P5 w (w.alloc o) := fun q cs hq => alloc_at hq
theorem P5.grown {w w' : World} {B : Nat} {v : Value} {n : Nat} {xs : List Value} (hown : w.ownsRow B 37 1 v n xs) (hg : w.grownBy w' v.ownBlock) : P5 w w' := fun q cs hq => grown_at hown hg hq (by decide)
/-- The head of what is told is never the head of what it must say. -/
theorem heads {es : List En} {e : En} (h : ∀ (j : Nat) (e : En), es[j]? = some e → e.tv ≠ e.wv) (hes : 1 ≤ es.length) (ts : List Value) : (es.map En.tv ++ ts)[0]? ≠ (es.map En.wv)[0]? := by
  cases es with
  | nil => simp at hes
  | cons a r =>
    simp
    exact h 0 a rfl

structure S1 (w w1 : World) (B kb : Nat) (es : List En) (T V T1 : Value) (tv : Value) : Prop where
  book : w1.heap[kb]? = some (.cells #[T, V] 45 (0, 0))
  told : w1.ownsRow B 37 1 T1 (es.length + 1) (es.map En.tv ++ [tv])
  want : w1.ownsRow B 37 1 V es.length (es.map En.wv)
  five : P5 w w1
  low : Below B w w1
theorem s1 {w w1 : World} {B kb : Nat} {es : List En} {T V T1 tv : Value} {o : Obj} (h : Bk w B kb es T V) (hBs : B ≤ w.heap.size) (ho : w1.ownsRow B 37 1 T1 (es.length + 1) (es.map En.tv ++ [tv])) (hg : (w.alloc o).grownBy w1 T.ownBlock) : S1 w w1 B kb es T V T1 tv := by
  refine ⟨grown_at (h.told.alloc o) hg (alloc_at h.book) (by decide), ho, (h.want.alloc o).kept hg ?_, (P5.alloc w o).trans (P5.grown (h.told.alloc o) hg), Below.grown ((Below.refl _ _).alloc hBs _) hg (by simp; omega) fun k hk => ((h.told.alloc o).lt k hk).1⟩
  cases hes : es with
  | nil => left; rw [(h.nil hes).2]; rfl
  | cons a r =>
    right
    have hl : 1 ≤ es.length := by rw [hes]; simp
    have := rows_apart (h.told) (h.want) hl hl (by simpa using heads (e := a) (fun j e he => (h.ok j e he).2.2) hl [])
    exact fun e => this e.symm

structure S2 (w y : World) (B kb : Nat) (es : List En) (V T1 : Value) (tv : Value) : Prop where
  book : y.heap[kb]? = some (.cells #[T1, V] 45 (0, 0))
  told : y.ownsRow B 37 1 T1 (es.length + 1) (es.map En.tv ++ [tv])
  want : y.ownsRow B 37 1 V es.length (es.map En.wv)
  five : P5 w y
  low : Below B w y
theorem s2 {w w1 : World} {B kb : Nat} {es : List En} {T V T1 tv : Value} (h : S1 w w1 B kb es T V T1 tv) (hkb : B ≤ kb) : S2 w (w1.setCell ⟨kb, 0, none⟩ T1) B kb es V T1 tv :=
  ⟨(heap_setCell_same w1 kb 0 _ 45 T1 h.book), owns_set h.told h.book, owns_set h.want h.book, h.five.trans (P5.set h.book (by decide)), below_set h.low hkb⟩
theorem s3 {w y w2 : World} {B kb : Nat} {es : List En} {V T1 tv : Value} (h : S2 w y B kb es V T1 tv) (hg : (y.alloc (.cells #[] 5)).grownBy w2 (some y.heap.size)) (hBy : B ≤ y.heap.size) : S2 w w2 B kb es V T1 tv := by
  have at2 : ∀ (q t : Nat) (cs : Array Value), y.heap[q]? = some (.cells cs t (0, 0)) → w2.heap[q]? = some (.cells cs t (0, 0)) := fun q t cs hq => by
    have hl := (Array.getElem?_eq_some_iff.1 hq).1
    exact (hg.block q (by simp; omega) (by simp; omega)).trans (alloc_at hq)
  have own2 : ∀ v n xs, y.ownsRow B 37 1 v n xs → w2.ownsRow B 37 1 v n xs := fun v n xs hv => by
    refine (hv.alloc _).kept hg ?_
    rcases hv.2 with ⟨rfl, _⟩ | ⟨g, cap, cur, rfl, _, h3, _⟩
    · left; rfl
    · right
      have hl := (Array.getElem?_eq_some_iff.1 h3).1
      simp [Value.ownBlock]
      omega
  exact ⟨at2 _ _ _ h.book, own2 _ _ _ h.told, own2 _ _ _ h.want, h.five.trans fun q cs hq => at2 q 5 cs hq, Below.grown (h.low.alloc hBy _) hg (by simp; omega) fun k hk => by simp at hk; omega⟩

theorem told_ne {w : World} {B : Nat} {e : En} (ht : TOk w B e) (hw : ∃ g cap, e.wv = .slice (some ⟨g, 0, none⟩) e.l.length cap ∧ w.heap.size ≤ g) : e.tv ≠ e.wv := fun h => by
  obtain ⟨g, cap, h1, h2⟩ := hw
  rcases ht.2 with ⟨h3, _⟩ | ⟨b, h3, _, h4⟩
  · rw [h3, h1] at h; simp at h
  · rw [h3, h1] at h
    simp at h
    have := (Array.getElem?_eq_some_iff.1 h4).1
    omega

/-- All steps taken: the book holds one entry more. -/
theorem s4 {w w2 w3 : World} {B kb lo : Nat} {es : List En} {T V T1 V1 tv wv : Value} {l : List Int} {o : Obj} (hb : Bk w B kb es T V) (h : S2 w w2 B kb es V T1 tv) (hkb : B ≤ kb) (hBs : B ≤ w.heap.size)
    (ho : w3.ownsRow B 37 1 V1 (es.length + 1) (es.map En.wv ++ [wv])) (hg : (w2.alloc o).grownBy w3 V.ownBlock) (hBw2 : B ≤ w2.heap.size)
    (htv : TOk w B ⟨tv, wv, l⟩) (hwv : ∃ g cap cur, wv = .slice (some ⟨g, 0, none⟩) l.length cap ∧ w.heap.size ≤ g ∧ w2.heap[g]? = some (.cells cur 5 (0, 0)) ∧ cur.toList.take l.length = l.map (Value.int .u8))
    (hlo : lo ≤ w.heap.size) (hlow : ∀ (j : Nat) (e : En), es[j]? = some e → ∀ b, e.tv.ownBlock = some b → b < lo) (hnew : ∀ b, tv.ownBlock = some b → lo ≤ b) :
    Bk (w3.setCell ⟨kb, 1, none⟩ V1) B kb (es ++ [⟨tv, wv, l⟩]) T1 V1 ∧ Below B w (w3.setCell ⟨kb, 1, none⟩ V1) := by
  obtain ⟨g, cap, cur, hw1, hw2, hw3, hw4⟩ := hwv
  have hVa := h.want.alloc o
  have hTa := h.told.alloc o
  have hbk := grown_at hVa hg (alloc_at h.book) (by decide)
  have hapart : T1.ownBlock = none ∨ T1.ownBlock ≠ V.ownBlock := by
    cases hes : es with
    | nil => 
      rw [(hb.nil hes).2]
      rcases e : T1.ownBlock with _ | q
      · left; rfl
      · right; simp [Value.ownBlock]
    | cons a r =>
      right
      have hl : 1 ≤ es.length := by rw [hes]; simp
      exact rows_apart h.told h.want (by omega) hl (heads (e := a) (fun j e he => (hb.ok j e he).2.2) hl [tv])
  have hT3 := hTa.kept hg hapart
  have h5 : P5 w (w3.setCell ⟨kb, 1, none⟩ V1) := ((h.five.trans (P5.alloc w2 o)).trans (P5.grown hVa hg)).trans (P5.set hbk (by decide))
  have h52 : P5 w2 (w3.setCell ⟨kb, 1, none⟩ V1) := ((P5.alloc w2 o).trans (P5.grown hVa hg)).trans (P5.set hbk (by decide))
  have hne := told_ne htv ⟨g, cap, hw1, hw2⟩
  refine ⟨⟨heap_setCell_same w3 kb 1 _ 45 V1 hbk, ?_, ?_, fun e => by simp at e, ?_, ?_⟩, below_set (Below.grown (h.low.alloc hBw2 _) hg (by simp; omega) fun k hk => (hVa.lt k hk).1) hkb⟩
  · have := owns_set (j := 1) (u := V1) hT3 hbk
    simpa using this
  · have := owns_set (j := 1) (u := V1) ho hbk
    simpa using this
  · intro j e he
    rcases Nat.lt_or_ge j es.length with hj | hj
    · rw [List.getElem?_append_left hj] at he
      obtain ⟨a1, a2, a3⟩ := hb.ok j e he
      exact ⟨a1.mono h5, a2.mono h5, a3⟩
    · rw [List.getElem?_append_right hj] at he
      have hj0 : j - es.length = 0 := by
        rcases Nat.eq_zero_or_pos (j - es.length) with h0 | h0
        · exact h0
        · rw [List.getElem?_eq_none (by simp; omega)] at he; cases he
      rw [hj0] at he
      simp at he
      subst he
      exact ⟨htv.mono h5, ⟨g, cap, cur, hw1, by omega, h52 g _ hw3, hw4⟩, hne⟩
  · intro i j e e' hij he he'
    rcases Nat.lt_or_ge j es.length with hj | hj
    · rw [List.getElem?_append_left (by omega)] at he
      rw [List.getElem?_append_left hj] at he'
      exact hb.lt i j e e' hij he he'
    · have hj0 : j = es.length := by
        rcases Nat.eq_or_lt_of_le hj with h0 | h0
        · exact h0.symm
        · rw [List.getElem?_eq_none (by simp; omega)] at he'; cases he'
      subst hj0
      rw [List.getElem?_append_left (by omega)] at he
      simp at he'
      subst he'
      intro b hbb
      have hbl := hlow i e he b hbb
      refine ⟨fun b' h' => by have := hnew b' h'; omega, fun b' h' => ?_⟩
      rw [hw1] at h'
      simp [Value.ownBlock] at h'
      omega
end Go.Proofs.YtbllnjifmcodbaaDoor
