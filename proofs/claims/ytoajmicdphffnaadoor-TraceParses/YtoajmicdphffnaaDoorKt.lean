/- The statements' own lending of records, and that they came back as they were. The statements' own look at traces that came out: each its owner's, written full and grown. -/
import Derived.Test.YtoajmicdphffnaaDoorKe
import Derived.Test.YtoajmicdphffnaaDoorKk
namespace Go.Proofs.YtoajmicdphffnaaDoor
open Go Go.RowKit
set_option linter.unusedVariables false
set_option maxHeartbeats 400000
set_option maxRecDepth 20000

abbrev M77 : Rc := { zR with co := 77 }
abbrev M78 : Rc := { zR with co := 78 }
/-- What was lent: the spans, and a mark behind them. -/
structure LntR (w : World) (g : Nat) (l : List Rc) (y : World) : Prop where
  bx : Bx y g (rowR (l ++ [M77])).toArray 45
  low : Below w.heap.size w y
theorem LntR.below {w y z : World} {g : Nat} {l : List Rc} (h : LntR w g l y) (hb : Below y.heap.size y z) : LntR w g l z := ⟨(hb.block g (heap_lt h.bx)).trans h.bx, h.low.trans (hb.mono h.low.size)⟩
theorem LntR.lies {w y : World} {g : Nat} {l : List Rc} (h : LntR w g l y) : LiesR y (some ⟨g, 0, none⟩) l := fun j s hj => ⟨g, 0, rfl, bx_range h.bx j s (by rw [List.getElem?_append_left (List.getElem?_eq_some_iff.1 hj).1]; exact hj)⟩
theorem LntR.mark {w y : World} {g : Nat} {l : List Rc} (h : LntR w g l y) : y.cell? ⟨g, l.length * 8, none⟩ = some (.int .u8 77) := by
  have := rangeC (bx_range h.bx l.length M77 (by rw [List.getElem?_append_right (Nat.le_refl _), Nat.sub_self]; rfl)) 0 _ (rcC_co _)
  rw [Nat.zero_add, Nat.add_zero] at this
  exact this
theorem lent_any (w : World) (sp : Option Addr) (cap : Nat) (l : List Rc) (hl : Hid (LiesR w sp l)) (hn : l.length ≤ 2147483647) :
    Calls Tryd.prog 10 #[.slice sp l.length cap] w fun e w' => e = .returned (.slice (some ⟨w.heap.size, 0, none⟩) l.length (l.length + 1)) ∧ Hid (LntR w w.heap.size l w') := by
  obtain ⟨n, hn'⟩ : ∃ n, l.length = n := ⟨_, rfl⟩
  obtain ⟨i, hi, hz0, hz1, hz2⟩ := info_parts infoR
  have hmk : ∀ v, (Instr.makeSlice 23 (.int .i64 ((n : Int) + 1)) (.int .i64 ((n : Int) + 1))).run Tryd.prog v = .ok (.slice (some ⟨v.heap.size, 0, none⟩) (n + 1) (n + 1)) (v.alloc (.cells (madeCells (rcC zR) ((n + 1) * 8)) 45)) := fun v => by
    have := run_make (P := Tryd.prog) v 23 45 i _ Tryd.underlying23 hi hz0 .i64 .i64 ((n : Int) + 1) ((n : Int) + 1) (by omega) (Int.le_refl _) (by rw [hz2]; omega) (by omega)
    rw [hz1, show ((n : Int) + 1).toNat = n + 1 by omega] at this
    exact this
  have hms : Hid ((madeCells (rcC zR) ((n + 1) * 8)).size = (n + 1) * 8) := by show _ = _; simp [size_madeCells]
  obtain ⟨M, hM⟩ : ∃ M, madeCells (rcC zR) ((n + 1) * 8) = M := ⟨_, rfl⟩
  rw [hM] at hmk hms
  rw [hn']
  have hli : (n : Int) ≤ 2147483647 := by omega
  have hnn : Hid (l.length = n) := hn'
  have hb : Hid (Tryd.prog.built 45 [(0, .int .u8 77)] = some (rcC M77)) := builtR 77
  have i0 := fun g v => idxP (g := g) (off := 0) (len := n + 1) (cap := n + 1) Tryd.underlying23 (s := 8) (by kernel_rfl) .i64 n v (by omega)
  simp only [Nat.zero_add] at i0
  clear hM hn hn' hi hz0 hz1 hz2
  obtain ⟨g, hg⟩ : ∃ g, w.heap.size = g := ⟨_, rfl⟩
  have hg' : Hid (w.heap.size = g) := hg
  rw [hg]
  have hA : Hid ((w.alloc (.cells M 45)).heap[g]? = some (.cells M 45 (0, 0)) ∧ LiesR (w.alloc (.cells M 45)) sp l ∧ Below w.heap.size w (w.alloc (.cells M 45))) := ⟨by rw [← hg]; exact alloc_last' w _, hl.out.below (below1 w _), below1 w _⟩
  have hmk' := hmk w
  rw [hg] at hmk'
  have i1 := i0 g
  clear hmk i0 hg
  go_enter Tryd.func10, Tryd.ntmps10
  go_wp2_with (refine at_copyR rfl (.tmp 8) (.tmp 9) rfl g (n + 1) (n + 1) sp n cap rfl rfl M hA.out.1 l hnn.out (by omega) hA.out.2.1 ?_ g (Nat.le_refl _) ?_)
  · rw [hms.out]; omega
  intro w1 H1
  have K1 : Hid (w1.heap[g]? = some (.cells (splice M.toList 0 (rowR l)).toArray 45 (0, 0)) ∧ Below w.heap.size w w1) := ⟨H1.out.1, hA.out.2.2.trans (H1.out.2.mono (by rw [hg'.out]; exact Nat.le_refl _))⟩
  have hml : M.toList.length = (n + 1) * 8 := by rw [Array.length_toList]; exact hms.out
  have hsl : Hid ((splice M.toList 0 (rowR l)).length = (n + 1) * 8) := (length_splice M.toList 0 (rowR l) (by rw [rowR_len, hnn.out, hml]; omega)).trans hml
  replace hml : Hid _ := hml
  have hth : Hid (w1.there g (n * 8) (rcC M77).size) := fun j hj => by
    rw [rcC_size] at hj
    refine ⟨?_, frozen_heap K1.out.1 _⟩
    have hl := hsl.out
    rw [cell_heap K1.out.1, List.getElem?_toArray, List.getElem?_eq_getElem (by omega)]
    rfl
  have fin : Hid (LntR w g l (w1.setCells g (n * 8) (rcC M77).toList)) := by
    refine ⟨?_, K1.out.2.trans (setCells_below _ g (by rw [hg'.out]; exact Nat.le_refl _) _ _ _)⟩
    have hl := hsl.out
    have := heap_setCells g 45 (rcC M77).toList (n * 8) w1 _ K1.out.1 (by rw [List.size_toArray, hl]; show n * 8 + 8 ≤ _; omega)
    rw [show ((splice M.toList 0 (rowR l)).toArray).toList = splice M.toList 0 (rowR l) by simp, splice_two (by rw [hml.out, Array.length_toList, rcC_size]; omega) (by rw [rowR_len, hnn.out])] at this
    rw [rowR_app]
    simp only [rowR, List.append_nil]
    exact this
  obtain ⟨X, hX⟩ : ∃ X, rcC M77 = X := ⟨_, rfl⟩
  have hX1 : Hid (X.all (·.oneCell') = true ∧ (Tryd.prog.info? 45).map (·.size) = some X.size) := by rw [← hX]; exact ⟨rcC_one _, sizeR⟩
  rw [hX] at hb hth fin
  clear H1 K1 hX hA hmk'
  go_wp2_with (first
    | ((with_reducible refine at_bu #[(0, .const (.int .u8 77))] [(0, .int .u8 77)] X ?_ ?_ ?_ hb.out ?_); kernel_rfl; rfl; kernel_rfl)
    | ((with_reducible refine wpList_store_mid ?_ 45 (.tmp 15) (.tmp 14) ?_ g (n * 8) X ?_ ?_ hth.out hX1.out.2 hX1.out.1 ?_); rfl; rfl; rfl; rfl))
  go_ret
  exact ⟨by first | rfl | simp, fin⟩
theorem back_any (w y : World) (g : Nat) (sp : Option Addr) (cap : Nat) (l : List Rc) (hg : w.heap.size ≤ g) (hL : Hid (LntR w g l y)) (hl : Hid (LiesR y sp l)) (hn : l.length ≤ 2147483647) :
    Calls Tryd.prog 13 #[.slice (some ⟨g, 0, none⟩) l.length (l.length + 1), .slice sp l.length cap] y fun e w' => e = .returned (.bool true) ∧ Cu w.heap.size (fun q _ => q = g) y w' := by
  have hS := same_eq y (some ⟨g, 0, none⟩) sp (l.length + 1) cap l hL.out.lies hl (by omega)
  have hm : ∀ z, Below y.heap.size y z → z.cell? ⟨g, l.length * 8, none⟩ = some (.int .u8 77) := fun z hb => (hL.out.below hb).mark
  obtain ⟨n, hn'⟩ : ∃ n, l.length = n := ⟨_, rfl⟩
  rw [hn'] at hS hm ⊢
  have hli : (n : Int) ≤ 2147483647 := by omega
  have i0 : ∀ v, (Instr.indexAt 23 (.slice (some ⟨g, 0, none⟩) (n + 1) (n + 1)) (.int .i64 (n : Int))).run Tryd.prog v = .ok (.pointer (some ⟨g, n * 8, none⟩)) v := fun v => by
    have := idxP (g := g) (off := 0) (len := n + 1) (cap := n + 1) Tryd.underlying23 (s := 8) (by kernel_rfl) .i64 n v (by omega)
    rw [Nat.zero_add] at this
    exact this
  have hb : Hid (Tryd.prog.built 45 [(0, .int .u8 78)] = some (rcC M78)) := builtR 78
  have H0 : Hid (∃ cur, y.heap[g]? = some (.cells cur 45 (0, 0)) ∧ cur.size = (n + 1) * 8) := ⟨_, hL.out.bx, by rw [List.size_toArray, rowR_len, List.length_append, hn']; rfl⟩
  have hlt : Hid (g < y.heap.size) := heap_lt hL.out.bx
  obtain ⟨X, hX⟩ : ∃ X, rcC M78 = X := ⟨_, rfl⟩
  have hX1 : Hid (X.all (·.oneCell') = true ∧ (Tryd.prog.info? 45).map (·.size) = some X.size ∧ X.size = 8) := by rw [← hX]; exact ⟨rcC_one _, sizeR, rfl⟩
  rw [hX] at hb
  have hg' : Hid (w.heap.size ≤ g) := hg
  have hnn : Hid (n ≤ 2147483647) := by show n ≤ 2147483647; omega
  replace hm : Hid _ := hm
  clear hX hn hn' hL hl hg
  go_enter Tryd.func13, Tryd.ntmps13
  go_wp2_with (go_at_call 34; refine hS.mono ?_; rintro e y1 ⟨rfl, hb1⟩; have d1 := hm.out y1 hb1; have K1 : Hid (Cu w.heap.size (fun q _ => q = g) y y1 ∧ ∃ cur, y1.heap[g]? = some (.cells cur 45 (0, 0)) ∧ cur.size = (n + 1) * 8) := (by obtain ⟨cur, h1, h2⟩ := H0.out; exact ⟨Cu.of_below hb1 (by have := hg'.out; have := hlt.out; omega), cur, (hb1.block g hlt.out).trans h1, h2⟩); clear hb1)
  go_loopw [7] (fun i wz => ∃ (k : Nat) (x : World), x = wz ∧ k ≤ n + 1 ∧ i = .int .i64 (k : Int) ∧ Hid (Cu w.heap.size (fun q _ => q = g) y x ∧ ∃ cur, x.heap[g]? = some (.cells cur 45 (0, 0)) ∧ cur.size = (n + 1) * 8)) (fun i _ => (n + 1 - intOf i).toNat)
  case atStart => exact ⟨0, y1, rfl, by omega, rfl, K1⟩
  case round =>
    obtain ⟨k, x, rfl, hk, rfl, K⟩ := hrel
    clear d1 K1 hS hm
    by_cases hlk : k < n + 1
    · have ij : ∀ v, (Instr.indexAt 23 (.slice (some ⟨g, 0, none⟩) (n + 1) (n + 1)) (.int .i64 (k : Int))).run Tryd.prog v = .ok (.pointer (some ⟨g, k * 8, none⟩)) v := fun v => by
        have := idxP (g := g) (off := 0) (len := n + 1) (cap := n + 1) Tryd.underlying23 (s := 8) (by kernel_rfl) .i64 k v hlk
        rw [Nat.zero_add] at this
        exact this
      have hth : Hid (x.there g (k * 8) X.size) := fun j hj => by
        obtain ⟨_, cur, h1, h2⟩ := K.out
        rw [hX1.out.2.2] at hj
        refine ⟨?_, frozen_heap h1 _⟩
        rw [cell_heap h1, Array.getElem?_eq_getElem (by omega)]
        rfl
      have fin : Hid (Cu w.heap.size (fun q _ => q = g) y (x.setCells g (k * 8) X.toList) ∧ ∃ cur, (x.setCells g (k * 8) X.toList).heap[g]? = some (.cells cur 45 (0, 0)) ∧ cur.size = (n + 1) * 8) := by
        obtain ⟨hC, cur, h1, h2⟩ := K.out
        have hxl : X.toList.length = 8 := by rw [Array.length_toList]; exact hX1.out.2.2
        refine ⟨hC.trans ((setCells_cu _ g _ hg'.out _ x).mono fun q j _ hF => hF.1), _, heap_setCells g _ _ _ x cur h1 (by rw [hxl]; omega), ?_⟩
        have := length_splice cur.toList (k * 8) X.toList (by rw [hxl, Array.length_toList]; omega)
        simpa [h2] using this
      have hki : (k : Int) < (n : Int) + 1 := by omega
      have hlk' : Hid (k < n + 1) := hlk
      clear K hlk hk
      go_wp2_with (first
        | ((with_reducible refine at_bu #[(0, .const (.int .u8 78))] [(0, .int .u8 78)] X ?_ ?_ ?_ hb.out ?_); kernel_rfl; rfl; kernel_rfl)
        | ((with_reducible refine wpList_store_mid ?_ 45 (.tmp 34) (.tmp 33) ?_ g (k * 8) X ?_ ?_ hth.out hX1.out.2.1 hX1.out.1 ?_); rfl; rfl; rfl; rfl))
      go_roundw
      case rel => exact ⟨k + 1, _, rfl, by have := hlk'.out; omega, by simp, fin⟩
      case measure => have := hlk'.out; simp [intOf]; omega
    · have hke : k = n + 1 := by omega
      subst hke
      clear hk hlk
      go_wp2
      go_ret
      exact ⟨by first | rfl | simp, K.out.1⟩

end Go.Proofs.YtoajmicdphffnaaDoor

namespace Go.Proofs.YtoajmicdphffnaaDoor
open Go Go.RowKit
set_option linter.unusedVariables false
set_option maxHeartbeats 2000000
set_option maxRecDepth 20000

def mkR (c : Int) : Rc := { zR with co := c }
theorem builtM (c : Int) : Tryd.prog.built 45 [(0, .int .u8 c)] = some (rcC (mkR c)) := builtR c
def gro (xs : List Rc) (c : Int) (k : Nat) : List Rc := xs ++ List.replicate k (mkR c)
/-- A row v0 of records, grown by k equal ones since w0. -/
structure Gr (B : Nat) (w0 : World) (v0 : Value) (xs : List Rc) (c : Int) (k : Nat) (v : Value) (y : World) : Prop where
  own : OwnR B y v (gro xs c k)
  cu : Cu B (fun g j => (v0.ownBlock = some g ∧ xs.length * 8 ≤ j) ∨ w0.heap.size ≤ g) w0 y
  new : ∀ g, v.ownBlock = some g → v0.ownBlock = some g ∨ w0.heap.size ≤ g
theorem Gr.start {B : Nat} {w0 : World} {v0 : Value} {xs : List Rc} {c : Int} (h : OwnR B w0 v0 xs) : Gr B w0 v0 xs c 0 v0 w0 :=
  ⟨by simpa [gro] using h, Cu.refl _ _ _, fun g h => .inl h⟩
theorem Gr.add {B : Nat} {w0 : World} {v0 : Value} {xs : List Rc} {c : Int} {k : Nat} {v v' : Value} {y w' : World} {o : Obj} (h : Gr B w0 v0 xs c k v y) (hB : B ≤ w0.heap.size) (a : App1 B v (gro xs c k) (mkR c) v' (y.alloc o) w') : Gr B w0 v0 xs c (k + 1) v' w' := by
  have hs := h.cu.low.size
  have hz : w0.heap.size ≤ (y.alloc o).heap.size := by simp; omega
  refine ⟨?_, (h.cu.trans (Cu.of_below (below1 y o) (by omega))).trans (a.cu.mono fun g j hg hF => ?_), fun g hg => ?_⟩
  · have := a.own
    unfold gro at this ⊢
    rw [List.append_assoc, ← List.replicate_succ'] at this
    exact this
  · rcases h.new g hF.1 with h1 | h1
    · exact .inl ⟨h1, by have := hF.2; simp [gro] at this; omega⟩
    · exact .inr h1
  · rcases a.new g hg with h1 | h1
    · exact h.new g h1
    · exact .inr (by omega)
theorem Gr.fin {B : Nat} {w0 : World} {v0 : Value} {xs : List Rc} {c : Int} {k : Nat} {v : Value} {y : World} (h : Gr B w0 v0 xs c k v y) (hk : 0 < k) : ∃ g cap, v = .slice (some ⟨g, 0, none⟩) (xs.length + k) cap ∧ g < y.heap.size ∧ (v0.ownBlock = some g ∨ w0.heap.size ≤ g) ∧ ∀ j, xs.length ≤ j → j < xs.length + k → y.cell? ⟨g, j * 8, none⟩ = some (.int .u8 c) := by
  have ho := h.own
  have hl : (gro xs c k).length = xs.length + k := by simp [gro]
  rcases ho.2 with ⟨_, h0⟩ | ⟨g, cap, cur, hv, _, hg, _⟩
  · rw [hl] at h0; omega
  · rw [hl] at hv
    refine ⟨g, cap, hv, heap_lt hg, h.new g (by rw [hv]; rfl), fun j h1 h2 => ?_⟩
    have hj : (gro xs c k)[j]? = some (mkR c) := by unfold gro; rw [List.getElem?_append_right h1, List.getElem?_replicate, if_pos (by omega)]
    have := World.ownsRow.cells (g := g) ho (by rw [hv]; rfl) (j * 8 + 0) (.int .u8 c) (by rw [rowR_at _ j 0 _ hj (by decide)]; rfl)
    rw [Addr.add_lit, Nat.zero_add, Nat.add_zero] at this
    exact this
theorem OwnR.keep {B : Nat} {F : Nat → Nat → Prop} {x y : World} {v : Value} {l : List Rc} (h : OwnR B x v l) (u : Cu B F x y) (hF : ∀ g j, v.ownBlock = some g → ¬ F g j) : OwnR B y v l := by
  refine ⟨h.1, ?_⟩
  rcases h.2 with h0 | ⟨g, cap, cur, hv, hb, hg, hr⟩
  · exact .inl h0
  · exact .inr ⟨g, cap, cur, hv, hb, (u.blk g (heap_lt hg) fun j => hF g j (by rw [hv]; rfl)).trans hg, hr⟩
/-- What lies elsewhere stays. -/
theorem LiesR.cu {B : Nat} {F : Nat → Nat → Prop} {x y : World} {sp : Option Addr} {l : List Rc} (h : LiesR x sp l) (u : Cu B F x y) (hF : ∀ a j, sp = some a → j < l.length * 8 → a.off = 0 → ¬ F a.block j) (h0 : ∀ a, sp = some a → a.off = 0) : LiesR y sp l := fun j v hj => by
  obtain ⟨gb, ob, e, c⟩ := h j v hj
  have h1 : ob = 0 := h0 _ e
  subst h1
  refine ⟨gb, 0, e, fun i u' hi => ?_⟩
  have c' := c i u' hi
  have hi8 : i < 8 := by have := (List.getElem?_eq_some_iff.1 hi).1; simpa [rcC_size] using this
  have hjl := (List.getElem?_eq_some_iff.1 hj).1
  refine (u.cell gb (0 + j * 8 + i) (World.block_lt_of_cell? x _ c') ?_).trans c'
  exact hF ⟨gb, 0, none⟩ (0 + j * 8 + i) e (by omega) rfl
/-- Where an owned slice lies. -/
theorem own_ptr {p : Option Addr} {k c g : Nat} {Z : Nat} (h : (Value.slice p k c).ownBlock = some g) (A : ∀ a, p = some a → a.off = 0 ∧ a.spot = none ∧ a.block < Z) : p = some ⟨g, 0, none⟩ := by
  cases p with
  | none => simp [Value.ownBlock] at h
  | some ad =>
    simp [Value.ownBlock] at h
    have := A ad rfl
    obtain ⟨b0, o0, s0⟩ := ad
    simp at this h
    obtain ⟨rfl, rfl, _⟩ := this
    subst h
    rfl
theorem own_any (w : World) (B : Nat) (hB : B ≤ w.heap.size) (va vb vc : Value) (l : List Rc) (hl : l.length ≤ 100000000) (ha : OwnR B w va l) (hb : OwnR B w vb l) (hc : OwnR B w vc l)
    (hab : ∀ g, va.ownBlock = some g → vb.ownBlock ≠ some g) (hac : ∀ g, va.ownBlock = some g → vc.ownBlock ≠ some g) (hbc : ∀ g, vb.ownBlock = some g → vc.ownBlock ≠ some g) :
    Calls Tryd.prog 16 #[va, vb, vc] w fun e w' => e = .returned (.bool true) ∧ Below B w w' := by
  obtain ⟨pa, ca, rfl, la, aa, oa⟩ := ha.open
  obtain ⟨pb, cb, rfl, lb, ab, ob⟩ := hb.open
  obtain ⟨pc, cc, rfl, lc, ac, oc⟩ := hc.open
  have dab : Hid (∀ g, pa = some ⟨g, 0, none⟩ → pb ≠ some ⟨g, 0, none⟩) := fun g h1 h2 => hab g ((oa g).2 h1) ((ob g).2 h2)
  have dac : Hid (∀ g, pa = some ⟨g, 0, none⟩ → pc ≠ some ⟨g, 0, none⟩) := fun g h1 h2 => hac g ((oa g).2 h1) ((oc g).2 h2)
  have dbc : Hid (∀ g, pb = some ⟨g, 0, none⟩ → pc ≠ some ⟨g, 0, none⟩) := fun g h1 h2 => hbc g ((ob g).2 h1) ((oc g).2 h2)
  have SA : Hid (∀ x, LiesR x pa l → LiesR x pc l → Calls Tryd.prog 34 #[.slice pa l.length ca, .slice pc l.length cc] x fun e w' => e = .returned (.bool true) ∧ Below x.heap.size x w') := fun x h1 h2 => same_eq x pa pc ca cc l h1 h2 (by omega)
  have SB : Hid (∀ x, LiesR x pb l → LiesR x pc l → Calls Tryd.prog 34 #[.slice pb l.length cb, .slice pc l.length cc] x fun e w' => e = .returned (.bool true) ∧ Below x.heap.size x w') := fun x h1 h2 => same_eq x pb pc cb cc l h1 h2 (by omega)
  clear hab hac hbc oa ob oc
  have HA : Hid (OwnR B w (.slice pa l.length ca) l) := ha
  have HBo : Hid (OwnR B w (.slice pb l.length cb) l) := hb
  have HLa : Hid (LiesR w pa l) := la
  have HLb : Hid (LiesR w pb l) := lb
  have HLc : Hid (LiesR w pc l) := lc
  have Aa : Hid (∀ a, pa = some a → a.off = 0 ∧ a.spot = none ∧ a.block < w.heap.size) := fun a e => ⟨(aa a e).1, (aa a e).2.1, (aa a e).2.2.2⟩
  have Ab : Hid (∀ a, pb = some a → a.off = 0 ∧ a.spot = none ∧ a.block < w.heap.size) := fun a e => ⟨(ab a e).1, (ab a e).2.1, (ab a e).2.2.2⟩
  have Ac : Hid (∀ a, pc = some a → a.off = 0 ∧ a.spot = none ∧ a.block < w.heap.size) := fun a e => ⟨(ac a e).1, (ac a e).2.1, (ac a e).2.2.2⟩
  have hB' : Hid (B ≤ w.heap.size) := hB
  obtain ⟨n, hn⟩ : ∃ n, l.length = n := ⟨_, rfl⟩
  rw [hn] at SA SB HA HBo hl ⊢
  have hn' : Hid (l.length = n) := hn
  have n16 : (n : Int) ≤ 100000000 := by omega
  have hnn : Hid (n ≤ 100000000) := hl
  have b79 : Hid (Tryd.prog.built 45 [(0, .int .u8 79)] = some (rcC (mkR 79))) := builtM 79
  have b80 : Hid (Tryd.prog.built 45 [(0, .int .u8 80)] = some (rcC (mkR 80))) := builtM 80
  have b81 : Hid (Tryd.prog.built 45 [(0, .int .u8 81)] = some (rcC (mkR 81))) := builtM 81
  obtain ⟨X, hX⟩ : ∃ X, rcC (mkR 79) = X := ⟨_, rfl⟩
  have hX1 : Hid (X.all (·.oneCell') = true ∧ (Tryd.prog.info? 45).map (·.size) = some X.size ∧ rcC (mkR 79) = X) := by rw [← hX]; exact ⟨rcC_one _, sizeR, rfl⟩
  rw [hX] at b79
  clear ha hb hc la lb lc aa ab ac hB hn hl hX
  go_enter Tryd.func16, Tryd.ntmps16
  go_wp2_with (first
    | (go_at_call_of 34 (Value.slice pa n ca); refine (SA.out _ HLa.out HLc.out).mono ?_; rintro e w1 ⟨rfl, q1⟩; replace q1 : Hid _ := q1)
    | (go_at_call_of 34 (Value.slice pb n cb); refine (SB.out _ (HLb.out.below q1.out) (HLc.out.below q1.out)).mono ?_; rintro e w2 ⟨rfl, q2⟩; replace q2 : Hid (Below w.heap.size w w2) := q1.out.trans (q2.mono q1.out.size)))
  go_loopw [7] (fun i wz => ∃ (k : Nat) (wx : World) (xs : List Rc), wx = wz ∧ k ≤ n ∧ i = .int .i64 (k : Int) ∧ Hid (xs.length = n ∧ OwnR B wx (.slice pa n ca) xs ∧ Cu B (fun g j => pa = some ⟨g, 0, none⟩) w wx)) (fun i _ => (n - intOf i).toNat)
  case atStart => exact ⟨0, _, l, rfl, by omega, rfl, ⟨hn'.out, HA.out.below q2.out, Cu.of_below q2.out hB'.out⟩⟩
  case round =>
    obtain ⟨k, wx, xs, rfl, hk, rfl, HX⟩ := hrel
    clear SA HLa HA
    by_cases hlt : k < n
    · obtain ⟨hxl, hO, hC⟩ := HX.out
      obtain ⟨g, rfl⟩ : ∃ g, pa = some ⟨g, 0, none⟩ := by
        obtain ⟨sp, cap, hv, hL, hA, _⟩ := hO.open
        simp at hv
        obtain ⟨rfl, _, _⟩ := hv
        obtain ⟨gb, ob, e, _⟩ := hL k _ (List.getElem?_eq_getElem (by omega))
        have := (hA _ e).1
        simp at this
        subst this
        exact ⟨gb, e⟩
      obtain ⟨hO2, hth, hbg⟩ := hO.set k (by omega) (mkR 79)
      rw [hX1.out.2.2] at hO2 hth
      have ij : ∀ v, (Instr.indexAt 23 (.slice (some ⟨g, 0, none⟩) n ca) (.int .i64 (k : Int))).run Tryd.prog v = .ok (.pointer (some ⟨g, k * 8, none⟩)) v := fun v => by
        have := idxP (g := g) (off := 0) (len := n) (cap := ca) Tryd.underlying23 (s := 8) (by kernel_rfl) .i64 k v hlt
        rw [Nat.zero_add] at this
        exact this
      have fin : Hid ((xs.set k (mkR 79)).length = n ∧ OwnR B (wx.setCells g (k * 8) X.toList) (.slice (some ⟨g, 0, none⟩) n ca) (xs.set k (mkR 79)) ∧ Cu B (fun g' j => (some ⟨g, 0, none⟩ : Option Addr) = some ⟨g', 0, none⟩) w (wx.setCells g (k * 8) X.toList)) :=
        ⟨by simp [hxl], hO2, hC.trans ((setCells_cu B g _ hbg _ wx).mono fun g' j _ hF => by rw [hF.1])⟩
      replace hth : Hid (wx.there g (k * 8) X.size) := hth
      have hlt' : Hid (k < n) := hlt
      have hki : (k : Int) < n := by omega
      clear hO hC HX hxl hbg hlt hk hO2
      go_wp2_with (first
        | ((with_reducible refine at_bu #[(0, .const (.int .u8 79))] [(0, .int .u8 79)] X ?_ ?_ ?_ b79.out ?_); kernel_rfl; rfl; kernel_rfl)
        | ((with_reducible refine wpList_store_mid ?_ 45 (.tmp 32) (.tmp 31) ?_ g (k * 8) X ?_ ?_ hth.out hX1.out.2.1 hX1.out.1 ?_); rfl; rfl; rfl; rfl))
      go_roundw
      case rel => exact ⟨k + 1, _, xs.set k (mkR 79), rfl, by have := hlt'.out; omega, by simp, fin⟩
      case measure => have := hlt'.out; simp [intOf]; omega
    · have hke : k = n := by omega
      subst hke
      obtain ⟨hxl, hO, hC⟩ := HX.out
      have G0 : Hid (Gr B wx (.slice pa k ca) xs 80 0 (.slice pa k ca) wx) := Gr.start hO
      have hxl' : Hid (xs.length = k) := hxl
      have hBx : Hid (B ≤ wx.heap.size) := by have := hB'.out; have := hC.low.size; show B ≤ wx.heap.size; omega
      have hC' : Hid (Cu B (fun g j => pa = some ⟨g, 0, none⟩) w wx) := hC
      clear HX hO hC hxl hk hlt
      go_wp2
      go_loopw [8, 9] (fun x i wz => ∃ (j : Nat) (v : Value) (y : World), y = wz ∧ v = x ∧ j ≤ 30 ∧ i = .int .i64 (j : Int) ∧ Hid (Gr B wx (.slice pa k ca) xs 80 j v y)) (fun _ i _ => (30 - intOf i).toNat)
      case atStart => exact ⟨0, _, _, rfl, rfl, by omega, rfl, G0⟩
      case round =>
        obtain ⟨j, xv, y, rfl, rfl, hj, rfl, G⟩ := hrel
        clear G0
        by_cases hlt : j < 30
        · have hlt' : Hid (j < 30) := hlt
          have hji : (j : Int) < 30 := by omega
          clear hlt hj
          go_wp2_with (first
            | ((with_reducible refine at_bu #[(0, .const (.int .u8 80))] [(0, .int .u8 80)] (rcC (mkR 80)) ?_ ?_ ?_ b80.out ?_); kernel_rfl; rfl; kernel_rfl)
            | ((with_reducible refine at_bsR (mkR 80) (.tmp 39) ?_ ?_ ?_ ?_); rfl; rfl; rfl)
            | (at_builtin; refine at_app rfl (.tmp 38) (.tmp 40) rfl B xv (gro xs 80 j) rfl (G.out.own.alloc _) y.heap.size (mkR 80) rfl (one_bx _ _ _) ?_ ?_ ?_; (have := hxl'.out; have := hlt'.out; have := hnn.out; simp [gro]; omega); (have := hBx.out; have := G.out.cu.low.size; simp; omega); intro v' w' A; have fin : Hid (Gr B wx (.slice pa k ca) xs 80 (j + 1) v' w') := G.out.add hBx.out A.out; clear A))
          go_roundw
          case rel => exact ⟨j + 1, _, _, rfl, rfl, by have := hlt'.out; omega, by simp, fin⟩
          case measure => have := hlt'.out; simp [intOf]; omega
        · have hje : j = 30 := by omega
          subst hje
          rw [show ((30 : Nat) : Int) = 30 from rfl]
          obtain ⟨gx, cx, rfl, hgx, hwh, hcx⟩ := G.out.fin (by omega)
          rw [hxl'.out] at hcx
          rw [hxl'.out] at G ⊢
          have U : Cu B (fun g j => pa = some ⟨g, 0, none⟩ ∨ w.heap.size ≤ g) w y := (hC'.out.mono fun g j _ h => .inl h).trans (G.out.cu.mono fun g j hg hF => by
            have hw := hC'.out.low.size
            rcases hF with ⟨h1, _⟩ | h1
            · exact .inl (own_ptr h1 Aa.out)
            · exact .inr (by omega))
          have kb : ∀ (g j : Nat), pb = some ⟨g, 0, none⟩ → ¬ (pa = some ⟨g, 0, none⟩ ∨ w.heap.size ≤ g) := fun g j h1 h2 => by
            rcases h2 with h2 | h2
            · exact dab.out g h2 h1
            · have := (Ab.out _ h1).2.2; simp at this; omega
          have kc : ∀ (g j : Nat), pc = some ⟨g, 0, none⟩ → ¬ (pa = some ⟨g, 0, none⟩ ∨ w.heap.size ≤ g) := fun g j h1 h2 => by
            rcases h2 with h2 | h2
            · exact dac.out g h2 h1
            · have := (Ac.out _ h1).2.2; simp at this; omega
          have OB : OwnR B y (.slice pb k cb) l := HBo.out.keep U fun g j h => kb g j (own_ptr h Ab.out)
          have LB : LiesR y pb l := HLb.out.cu U (fun a j e _ h0 => by have := (Ab.out a e).2.1; obtain ⟨b0, o0, s0⟩ := a; simp at h0 this; subst h0 this; exact kb b0 j e) (fun a e => (Ab.out a e).1)
          have LC : LiesR y pc l := HLc.out.cu U (fun a j e _ h0 => by have := (Ac.out a e).2.1; obtain ⟨b0, o0, s0⟩ := a; simp at h0 this; subst h0 this; exact kc b0 j e) (fun a e => (Ac.out a e).1)
          have hBy : Hid (B ≤ y.heap.size) := by have := hB'.out; have := U.low.size; show B ≤ y.heap.size; omega
          have X2 : Hid (gx < y.heap.size ∧ pb ≠ some ⟨gx, 0, none⟩ ∧ ∀ j, k ≤ j → j < k + 30 → y.cell? ⟨gx, j * 8, none⟩ = some (.int .u8 80)) := by
            refine ⟨hgx, fun h => ?_, hcx⟩
            rcases hwh with h1 | h1
            · exact dab.out _ (own_ptr h1 Aa.out) h
            · have := (Ab.out _ h).2.2
              have hw := hC'.out.low.size
              simp at this
              omega
          have LB' : Hid (LiesR y pb l) := LB
          have LC' : Hid (LiesR y pc l) := LC
          have U' : Hid (Below B w y) := U.low
          have OB' : Hid (OwnR B y (.slice pb k cb) l) := OB
          have AbY : Hid (∀ a, pb = some a → a.off = 0 ∧ a.spot = none ∧ a.block < y.heap.size) := fun a e => ⟨(Ab.out a e).1, (Ab.out a e).2.1, by have := (Ab.out a e).2.2; have := U.low.size; have := hB'.out; have h9 := U.low.size; omega⟩
          have AcY : Hid (∀ a, pc = some a → a.off = 0 ∧ a.spot = none ∧ a.block < y.heap.size) := fun a e => ⟨(Ac.out a e).1, (Ac.out a e).2.1, by have := (Ac.out a e).2.2; have h9 := U.low.size; omega⟩
          clear OB LB LC U kb kc hgx hwh hcx G hj hlt
          go_wp2_with (go_at_call_of 34 (Value.slice pb k cb); refine (SB.out _ LB'.out LC'.out).mono ?_; rintro e y2 ⟨rfl, q3⟩; replace q3 : Hid (Below y.heap.size y y2) := q3)
          have H0 : Hid (Gr B y2 (.slice pb k cb) l 81 0 (.slice pb k cb) y2) := Gr.start (OB'.out.below q3.out)
          have LB2 : Hid (LiesR y2 pb l) := LB'.out.below q3.out
          have LC2 : Hid (LiesR y2 pc l) := LC'.out.below q3.out
          have U2 : Hid (Below B w y2) := U'.out.trans (q3.out.mono hBy.out)
          have X22 : Hid (gx < y2.heap.size ∧ pb ≠ some ⟨gx, 0, none⟩ ∧ ∀ j, k ≤ j → j < k + 30 → y2.cell? ⟨gx, j * 8, none⟩ = some (.int .u8 80)) := ⟨by have := X2.out.1; have := q3.out.size; omega, X2.out.2.1, fun j h1 h2 => (q3.out.cell (p := ⟨gx, j * 8, none⟩) X2.out.1).trans (X2.out.2.2 j h1 h2)⟩
          have AbY2 : Hid (∀ a, pb = some a → a.off = 0 ∧ a.spot = none ∧ a.block < y2.heap.size) := fun a e => ⟨(AbY.out a e).1, (AbY.out a e).2.1, by have := (AbY.out a e).2.2; have := q3.out.size; omega⟩
          have AcY2 : Hid (∀ a, pc = some a → a.off = 0 ∧ a.spot = none ∧ a.block < y2.heap.size) := fun a e => ⟨(AcY.out a e).1, (AcY.out a e).2.1, by have := (AcY.out a e).2.2; have := q3.out.size; omega⟩
          have hBy2 : Hid (B ≤ y2.heap.size) := by have := hBy.out; have := q3.out.size; show B ≤ y2.heap.size; omega
          clear LB' LC' U' X2 AbY AcY hBy q3 OB'
          go_loopw [10, 11] (fun x i wz => ∃ (j : Nat) (v : Value) (z : World), z = wz ∧ v = x ∧ j ≤ 30 ∧ i = .int .i64 (j : Int) ∧ Hid (Gr B y2 (.slice pb k cb) l 81 j v z)) (fun _ i _ => (30 - intOf i).toNat)
          case atStart => exact ⟨0, _, _, rfl, rfl, by omega, rfl, H0⟩
          case round =>
            obtain ⟨j, yv, z, rfl, rfl, hj, rfl, G⟩ := hrel
            clear H0
            by_cases hlt : j < 30
            · have hlt' : Hid (j < 30) := hlt
              have hji : (j : Int) < 30 := by omega
              clear hlt hj
              go_wp2_with (first
                | ((with_reducible refine at_bu #[(0, .const (.int .u8 81))] [(0, .int .u8 81)] (rcC (mkR 81)) ?_ ?_ ?_ b81.out ?_); kernel_rfl; rfl; kernel_rfl)
                | ((with_reducible refine at_bsR (mkR 81) (.tmp 52) ?_ ?_ ?_ ?_); rfl; rfl; rfl)
                | (at_builtin; refine at_app rfl (.tmp 51) (.tmp 53) rfl B yv (gro l 81 j) rfl (G.out.own.alloc _) z.heap.size (mkR 81) rfl (one_bx _ _ _) ?_ ?_ ?_; (have := hn'.out; have := hlt'.out; have := hnn.out; simp [gro]; omega); (have := hBy2.out; have := G.out.cu.low.size; simp; omega); intro v' w' A; have fin : Hid (Gr B y2 (.slice pb k cb) l 81 (j + 1) v' w') := G.out.add hBy2.out A.out; clear A))
              go_roundw
              case rel => exact ⟨j + 1, _, _, rfl, rfl, by have := hlt'.out; omega, by simp, fin⟩
              case measure => have := hlt'.out; simp [intOf]; omega
            · have hje : j = 30 := by omega
              subst hje
              rw [show ((30 : Nat) : Int) = 30 from rfl]
              obtain ⟨gy, cy, rfl, hgy, hwy, hcy⟩ := G.out.fin (by omega)
              rw [hn'.out] at hcy ⊢
              have U := G.out.cu
              rw [hn'.out] at U
              have LB : Hid (LiesR z pb l) := LB2.out.cu U (fun a i e hi h0 hF => by
                rcases hF with h1 | h1
                · rw [hn'.out] at hi; omega
                · have := (AbY2.out a e).2.2; omega) (fun a e => (AbY2.out a e).1)
              have LC : Hid (LiesR z pc l) := LC2.out.cu U (fun a i e hi h0 hF => by
                rcases hF with h1 | h1
                · have h3 := own_ptr h1.1 AbY2.out
                  have := (AcY2.out a e).2.1
                  obtain ⟨b0, o0, s0⟩ := a
                  simp at h0 this h3
                  subst h0 this
                  exact dbc.out _ h3 e
                · have := (AcY2.out a e).2.2; omega) (fun a e => (AcY2.out a e).1)
              have X3 : Hid (∀ j, k ≤ j → j < k + 30 → z.cell? ⟨gx, j * 8, none⟩ = some (.int .u8 80) ∧ z.cell? ⟨gy, j * 8, none⟩ = some (.int .u8 81)) := fun j h1 h2 => ⟨(U.cell gx (j * 8) X22.out.1 fun hF => by
                rcases hF with h3 | h3
                · exact X22.out.2.1 (own_ptr h3.1 AbY2.out)
                · have := X22.out.1; omega).trans (X22.out.2.2 j h1 h2), hcy j h1 h2⟩
              have U4 : Hid (Below B w z) := U2.out.trans U.low
              clear U hgy hwy hcy G hj hlt X22 LB2 LC2 U2 AbY2 AcY2
              go_wp2
              go_loopw [12] (fun i wz => ∃ j : Nat, k ≤ j ∧ j ≤ k + 30 ∧ i = .int .i64 (j : Int) ∧ z = wz) (fun i _ => (k + 30 - intOf i).toNat)
              case atStart => exact ⟨k, by omega, by omega, rfl, rfl⟩
              case round =>
                obtain ⟨j, hj1, hj2, rfl, hz⟩ := hrel
                subst hz
                by_cases hlt : j < k + 30
                · obtain ⟨c8, c9⟩ := X3.out j hj1 hlt
                  have ij := fun v => idxP (g := gx) (off := 0) (len := k + 30) (cap := cx) Tryd.underlying23 (s := 8) (by kernel_rfl) .i64 j v hlt
                  have il := fun v => idxP (g := gy) (off := 0) (len := k + 30) (cap := cy) Tryd.underlying23 (s := 8) (by kernel_rfl) .i64 j v hlt
                  simp only [Nat.zero_add] at ij il
                  have hki : (j : Int) < (k : Int) + 30 := by omega
                  have hlt' : Hid (k ≤ j ∧ j < k + 30) := ⟨hj1, hlt⟩
                  clear hj1 hj2 hlt
                  go_wp2
                  go_roundw
                  case rel => exact ⟨j + 1, by have := hlt'.out; omega, by have := hlt'.out; omega, by simp, by first | rfl | trivial⟩
                  case measure => have := hlt'.out; simp [intOf]; omega
                · have hke : j = k + 30 := by omega
                  subst hke
                  clear hj1 hj2 hlt X3
                  go_wp2_with (go_at_call_of 34 (Value.slice pb k cb); refine (SB.out _ LB.out LC.out).mono ?_; rintro e w5 ⟨rfl, q5⟩; replace q5 : Hid (Below z.heap.size z w5) := q5)
                  go_ret
                  exact ⟨by first | rfl | simp, U4.out.trans (q5.out.mono (by have := hB'.out; have := U4.out.size; omega))⟩
end Go.Proofs.YtoajmicdphffnaaDoor
