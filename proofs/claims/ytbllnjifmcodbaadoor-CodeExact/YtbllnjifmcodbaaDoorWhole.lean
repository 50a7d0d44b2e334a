/- The law's own book: what was told, and that it stands as it was told. -/
import Derived.Test.YtbllnjifmcodbaaDoorMark
import Derived.OwnWalk
namespace Go.Proofs.YtbllnjifmcodbaaDoor
open Go.RowKit
set_option linter.unusedVariables false
set_option maxHeartbeats 1000000
set_option maxRecDepth 20000

theorem quiet2D {P : Program} {f : FuncId} {args : Array Value} {w : World} {k n : Nat} {v : Value} (h : Calls P f args (w.drewN (k + n)) fun e w' => e = .returned v ∧ ∃ j, w' = (w.drewN (k + n)).drewN j) : Calls P f args (w.drewN (k + n)) fun e w'' => e = .returned v ∧ ∃ m, w'' = w.drewN (k + m) :=
  h.mono fun _ _ ⟨he, j, hm⟩ => ⟨he, n + j, by rw [hm, World.drewN_drewN, Nat.add_assoc]⟩
theorem quiet1D {P : Program} {f : FuncId} {args : Array Value} {w : World} {n : Nat} {v : Value} (h : Calls P f args (w.drewN n) fun e w' => e = .returned v ∧ ∃ j, w' = (w.drewN n).drewN j) : Calls P f args (w.drewN n) fun e w'' => e = .returned v ∧ ∃ m, w'' = w.drewN m :=
  h.mono fun _ _ ⟨he, j, hm⟩ => ⟨he, n + j, by rw [hm, World.drewN_drewN]⟩

/-- An entry of the book: what was told, what it must say, and its bytes. -/
structure En where
  tv : Value
  wv : Value
  l : List Int
def TOk (w : World) (B : Nat) (e : En) : Prop := e.l.length ≤ 3 ∧
  ((e.tv = .slice none 0 0 ∧ e.l = []) ∨ ∃ b, e.tv = .slice (some ⟨b, 0, none⟩) e.l.length e.l.length ∧ B ≤ b ∧ w.heap[b]? = some (.cells (e.l.map (Value.int .u8)).toArray 5 (0, 0)))
def WOk (w : World) (B : Nat) (e : En) : Prop :=
  ∃ g cap cur, e.wv = .slice (some ⟨g, 0, none⟩) e.l.length cap ∧ B ≤ g ∧ w.heap[g]? = some (.cells cur 5 (0, 0)) ∧ cur.toList.take e.l.length = e.l.map (Value.int .u8)

theorem whole_nil (w : World) (kb : Nat) (a : Option Addr) (cap : Nat) (V : Value) (hk : w.cell? ⟨kb, 0, none⟩ = some (.slice a 0 cap)) :
    Calls Tryd.prog 14 #[.pointer (some ⟨kb, 0, none⟩)] w fun e w' => e = .returned (.bool true) ∧ w' = w := by
  go_enter Tryd.func14, Tryd.ntmps14
  go_wp2
  go_loopw [3] (fun i wz => i = .int .i64 0 ∧ wz = w) (fun _ _ => 0)
  case atStart => exact ⟨rfl, rfl⟩
  case round =>
    obtain ⟨rfl, rfl⟩ := hrel
    go_wp2
    go_loopw [4] (fun i wz => i = .int .i64 0 ∧ wz = wr) (fun _ _ => 0)
    case atStart => exact ⟨rfl, rfl⟩
    case round =>
      obtain ⟨rfl, rfl⟩ := hrel
      go_wp2
      go_ret
      exact ⟨rfl, rfl⟩

def Lt (e e' : En) : Prop := ∀ b, e.tv.ownBlock = some b → (∀ b', e'.tv.ownBlock = some b' → b < b') ∧ (∀ b', e'.wv.ownBlock = some b' → b < b')
/-- The book as it stands in a world: from entry k on all is right. -/
structure Vw (x : World) (B kb gt gv ct cv : Nat) (ut uv : Array Value) (es : List En) (k : Nat) : Prop where
  book : x.heap[kb]? = some (.cells #[.slice (some ⟨gt, 0, none⟩) es.length ct, .slice (some ⟨gv, 0, none⟩) es.length cv] 45 (0, 0))
  told : x.heap[gt]? = some (.cells ut 37 (0, 0))
  want : x.heap[gv]? = some (.cells uv 37 (0, 0))
  ok : ∀ (j : Nat) (e : En), k ≤ j → es[j]? = some e → TOk x B e ∧ WOk x B e
theorem cell_heap {x : World} {b t : Nat} {cs : Array Value} (h : x.heap[b]? = some (.cells cs t (0, 0))) (j : Nat) : x.cell? ⟨b, j, none⟩ = cs[j]? := by unfold World.cell?; simp [h]

theorem row_of {x : World} {B : Nat} {e : En} (h : TOk x B e ∧ WOk x B e) : ∃ (a b : Option Addr) (n ca cb : Nat) (f : Nat → Int), e.tv = .slice a n ca ∧ e.wv = .slice b n cb ∧ n ≤ 3 ∧
    ∀ j, j < n → ∃ ga oa gb ob, a = some ⟨ga, oa, none⟩ ∧ b = some ⟨gb, ob, none⟩ ∧ x.cell? ⟨ga, oa + j, none⟩ = some (.int .u8 (f j)) ∧ x.cell? ⟨gb, ob + j, none⟩ = some (.int .u8 (f j)) := by
  obtain ⟨⟨h3, ht⟩, ⟨g, cap, cur, hw, hg, hh, htk⟩⟩ := h
  rcases ht with ⟨h1, h2⟩ | ⟨b, h1, h2, h4⟩
  · rw [h2] at hw
    exact ⟨none, some ⟨g, 0, none⟩, 0, 0, cap, fun _ => 0, h1, hw, by omega, fun j hj => by omega⟩
  · refine ⟨some ⟨b, 0, none⟩, some ⟨g, 0, none⟩, e.l.length, _, cap, fun j => e.l.getD j 0, h1, hw, h3, fun j hj => ⟨b, 0, g, 0, rfl, rfl, ?_, ?_⟩⟩
    · rw [Nat.zero_add, cell_heap h4]
      simp [List.getD, hj]
    · rw [Nat.zero_add, cell_heap hh]
      have h5 : cur.toList[j]? = (cur.toList.take e.l.length)[j]? := by rw [List.getElem?_take, if_pos hj]
      rw [htk] at h5
      have h6 : cur[j]? = cur.toList[j]? := by simp
      rw [h6, h5]
      simp [List.getD, hj]

theorem Vw.but {x x' : World} {B kb gt gv ct cv : Nat} {ut uv : Array Value} {es : List En} {k b : Nat} {e : En} (h : Vw x B kb gt gv ct cv ut uv es k) (he : es[k]? = some e) (hb : e.tv.ownBlock = some b) (hbut : But b x x')
    (hlt : ∀ (i j : Nat) (e e' : En), i < j → es[i]? = some e → es[j]? = some e' → Lt e e') : Vw x' B kb gt gv ct cv ut uv es (k + 1) := by
  have hcell : ∃ cs, x.heap[b]? = some (.cells cs 5 (0, 0)) := by
    obtain ⟨⟨_, ht⟩, _⟩ := h.ok k e (Nat.le_refl _) he
    rcases ht with ⟨h1, _⟩ | ⟨b', h1, _, h3⟩
    · rw [h1] at hb; cases hb
    · rw [h1] at hb
      simp [Value.ownBlock] at hb
      subst hb
      exact ⟨_, h3⟩
  obtain ⟨cs, hcs⟩ := hcell
  have ne : ∀ q us t, t ≠ 5 → x.heap[q]? = some (.cells us t (0, 0)) → q ≠ b := fun q us t ht hq e => by
    subst e
    rw [hcs] at hq
    simp at hq
    exact ht hq.2.symm
  refine ⟨(hbut.block _ (ne _ _ _ (by decide) h.book)).trans h.book, (hbut.block _ (ne _ _ _ (by decide) h.told)).trans h.told, (hbut.block _ (ne _ _ _ (by decide) h.want)).trans h.want, fun j e' hj he' => ?_⟩
  obtain ⟨⟨h3, ht⟩, ⟨g, cap, cur, hw, hg, hh, htk⟩⟩ := h.ok j e' (by omega) he'
  obtain ⟨l1, l2⟩ := hlt k j e e' (by omega) he he' b hb
  refine ⟨⟨h3, ?_⟩, ⟨g, cap, cur, hw, hg, ?_, htk⟩⟩
  · rcases ht with hn | ⟨b', h1, h2, h4⟩
    · exact .inl hn
    · have := l1 b' (by rw [h1]; rfl)
      exact .inr ⟨b', h1, h2, (hbut.block b' (by omega)).trans h4⟩
  · have := l2 g (by rw [hw]; rfl)
    exact (hbut.block g (by omega)).trans hh

theorem whole_some (w : World) (B kb gt gv ct cv : Nat) (ut uv : Array Value) (es : List En) (V0 : Vw w B kb gt gv ct cv ut uv es 0) (hes : 1 ≤ es.length) (hlen : es.length ≤ 2147483647) (hB : B ≤ kb)
    (hu : Hid (∀ (j : Nat) (e : En), es[j]? = some e → ut[j]? = some e.tv ∧ uv[j]? = some e.wv)) (hlt : Hid (∀ (i j : Nat) (e e' : En), i < j → es[i]? = some e → es[j]? = some e' → Lt e e')) :
    Calls Tryd.prog 14 #[.pointer (some ⟨kb, 0, none⟩)] w fun e w' => e = .returned (.bool true) ∧ Below B w w' := by
  obtain ⟨m, hm⟩ : ∃ m, Hid (es.length = m) := ⟨_, (rfl : es.length = es.length)⟩
  have hm' := hm.out
  have k0 : w.cell? ⟨kb, 0, none⟩ = some (.slice (some ⟨gt, 0, none⟩) m ct) := by rw [cell_heap V0.book, ← hm']; rfl
  have k1 : w.cell? ⟨kb, 1, none⟩ = some (.slice (some ⟨gv, 0, none⟩) m cv) := by rw [cell_heap V0.book, ← hm']; rfl
  rw [hm'] at hes hlen
  clear hm'
  go_enter Tryd.func14, Tryd.ntmps14
  go_wp2
  go_loopw [3] (fun i wz => ∃ k q : Nat, k ≤ m ∧ i = .int .i64 (k : Int) ∧ wz = w.drewN q) (fun i _ => (m - intOf i).toNat)
  case atStart => exact ⟨0, 0, by omega, rfl, rfl⟩
  case round =>
    obtain ⟨k, q, hk, rfl, rfl⟩ := hrel
    by_cases hlt' : k < m
    · have hke : k < es.length := by rw [hm.out]; exact hlt'
      obtain ⟨e, he⟩ : ∃ e, Hid (es[k]? = some e) := ⟨_, List.getElem?_eq_getElem hke⟩
      obtain ⟨a, b, n, ca, cb, f, ha, hb, hn3, hrow⟩ := row_of (V0.ok k e (Nat.zero_le _) he.out)
      have hs := fun j => same_true (w.drewN (q + j)) a b n ca cb f (by omega) hrow
      have t0 : w.cell? ⟨gt, k, none⟩ = some (.slice a n ca) := by rw [cell_heap V0.told, (hu.out k e he.out).1, ha]
      have t1 : w.cell? ⟨gv, k, none⟩ = some (.slice b n cb) := by rw [cell_heap V0.want, (hu.out k e he.out).2, hb]
      have i0 := fun v => idxS (g := gt) (off := 0) (len := m) (cap := ct) Tryd.underlying43 (s := 1) (by kernel_rfl) .i64 k v hlt'
      have i1 := fun v => idxS (g := gv) (off := 0) (len := m) (cap := cv) Tryd.underlying43 (s := 1) (by kernel_rfl) .i64 k v hlt'
      simp only [Nat.zero_add, Nat.mul_one] at i0 i1
      clear hrow ha hb
      go_wp2
      go_quiet ((first | (go_at_call 15; exact quiet2D (hs _))))
      go_wp2
      go_roundw
      case rel => exact ⟨k + 1, _, by omega, by simp, rfl⟩
      case measure => simp [intOf]; omega
    · have V1 : Vw (w.drewN q) B kb gt gv ct cv ut uv es 0 := ⟨V0.book, V0.told, V0.want, V0.ok⟩
      have B1 : Below B w (w.drewN q) := below_drewN (Below.refl _ _)
      go_wp2
      go_loopw [4] (fun i wz => ∃ (k : Nat) (wx : World), wx = wz ∧ k ≤ m ∧ i = .int .i64 (k : Int) ∧ Hid (Vw wx B kb gt gv ct cv ut uv es k) ∧ Below B w wx) (fun i _ => (m - intOf i).toNat)
      case atStart => exact ⟨0, _, rfl, by omega, rfl, V1, B1⟩
      case round =>
        clear V1 B1 V0 k0 k1
        obtain ⟨p, wx, rfl, hp, rfl, hV, HX⟩ := hrel
        have k0 : wx.cell? ⟨kb, 0, none⟩ = some (.slice (some ⟨gt, 0, none⟩) m ct) := by rw [cell_heap hV.out.book, ← hm.out]; rfl
        have k1 : wx.cell? ⟨kb, 1, none⟩ = some (.slice (some ⟨gv, 0, none⟩) m cv) := by rw [cell_heap hV.out.book, ← hm.out]; rfl
        by_cases hlt2 : p < m
        · have hke : p < es.length := by rw [hm.out]; exact hlt2
          obtain ⟨e, he⟩ : ∃ e, Hid (es[p]? = some e) := ⟨_, List.getElem?_eq_getElem hke⟩
          have hok := hV.out.ok p e (Nat.le_refl _) he.out
          obtain ⟨a, b, n, ca, cb, f, ha, hb, hn3, hrow⟩ := row_of hok
          have hs := fun j => same_true (wx.drewN j) a b n ca cb f (by omega) hrow
          have t0 : wx.cell? ⟨gt, p, none⟩ = some (.slice a n ca) := by rw [cell_heap hV.out.told, (hu.out p e he.out).1, ha]
          have t1 : wx.cell? ⟨gv, p, none⟩ = some (.slice b n cb) := by rw [cell_heap hV.out.want, (hu.out p e he.out).2, hb]
          have i0 := fun v => idxS (g := gt) (off := 0) (len := m) (cap := ct) Tryd.underlying43 (s := 1) (by kernel_rfl) .i64 p v hlt2
          have i1 := fun v => idxS (g := gv) (off := 0) (len := m) (cap := cv) Tryd.underlying43 (s := 1) (by kernel_rfl) .i64 p v hlt2
          simp only [Nat.zero_add, Nat.mul_one] at i0 i1
          have hM : ∀ j, Calls Tryd.prog 34 #[.slice a n ca] (wx.drewN j) fun e w' => (∃ v, e = .returned v) ∧ (Vw w' B kb gt gv ct cv ut uv es (p + 1) ∧ Below B w w') := fun j => by
            rcases hok.1.2 with ⟨h1, h2⟩ | ⟨tb, h1, h2, h4⟩
            · have e1 := ha.symm.trans h1
              obtain ⟨rfl, rfl, rfl⟩ : a = none ∧ n = 0 ∧ ca = 0 := by simpa using e1
              refine (mark_nil (wx.drewN j)).mono ?_
              rintro e' w' ⟨hv, rfl⟩
              exact ⟨hv, ⟨hV.out.book, hV.out.told, hV.out.want, fun i e hi he => hV.out.ok i e (by omega) he⟩, below_drewN HX⟩
            · have e1 := ha.symm.trans h1
              obtain ⟨rfl, rfl, rfl⟩ : a = some ⟨tb, 0, none⟩ ∧ n = e.l.length ∧ ca = e.l.length := by simpa using e1
              refine (mark_row (wx.drewN j) tb e.l.length _ h4 (by simp) (by omega)).mono ?_
              rintro e' w' ⟨hv, hbut⟩
              have hV' : Vw (wx.drewN j) B kb gt gv ct cv ut uv es p := ⟨hV.out.book, hV.out.told, hV.out.want, hV.out.ok⟩
              exact ⟨hv, hV'.but he.out (by rw [h1]; rfl) hbut hlt.out, hbut.below h2 (below_drewN HX)⟩
          clear hrow ha hb hok
          go_wp2
          go_quiet ((first | (go_at_call 15; exact quiet1D (hs _))))
          go_wp2_with (go_at_call 34; refine (hM _).mono ?_; rintro e w2 ⟨⟨v, rfl⟩, hV2, HX2⟩)
          go_roundw
          case rel => exact ⟨p + 1, _, rfl, by omega, by simp, hV2, HX2⟩
          case measure => simp [intOf]; omega
        · go_wp2
          go_ret
          exact ⟨rfl, HX⟩
end Go.Proofs.YtbllnjifmcodbaaDoor
