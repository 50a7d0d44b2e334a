/- The statements' own lending of records, and that they came back as they were. -/
import Derived.Test.YtoajmicdphffnaaDoorKe
namespace Go.Proofs.YtoajmicdphffnaaDoor
open Go Go.RowKit
set_option linter.unusedVariables false
set_option maxHeartbeats 400000
set_option maxRecDepth 20000

abbrev M77 : Rc := { zR with co := 77 }
abbrev M78 : Rc := { zR with co := 78 }
/-- What was lent: the spans, and a mark behind them. -/
structure LntR (w : World) (g : Nat) (l : List Rc) (y : World) : Prop where
  bx : Bx y g (rowR (l ++ [M77])).toArray 45
  low : Below w.heap.size w y
theorem LntR.below {w y z : World} {g : Nat} {l : List Rc} (h : LntR w g l y) (hb : Below y.heap.size y z) : LntR w g l z := ⟨(hb.block g (heap_lt h.bx)).trans h.bx, h.low.trans (hb.mono h.low.size)⟩
theorem LntR.lies {w y : World} {g : Nat} {l : List Rc} (h : LntR w g l y) : LiesR y (some ⟨g, 0, none⟩) l := fun j s hj => ⟨g, 0, rfl, bx_range h.bx j s (by rw [List.getElem?_append_left (List.getElem?_eq_some_iff.1 hj).1]; exact hj)⟩
theorem LntR.mark {w y : World} {g : Nat} {l : List Rc} (h : LntR w g l y) : y.cell? ⟨g, l.length * 8, none⟩ = some (.int .u8 77) := by
  have := rangeC (bx_range h.bx l.length M77 (by rw [List.getElem?_append_right (Nat.le_refl _), Nat.sub_self]; rfl)) 0 _ (rcC_co _)
  rw [Nat.zero_add, Nat.add_zero] at this
  exact this
theorem lent_any (w : World) (sp : Option Addr) (cap : Nat) (l : List Rc) (hl : Hid (LiesR w sp l)) (hn : l.length ≤ 2147483647) :
    Calls Tryd.prog 10 #[.slice sp l.length cap] w fun e w' => e = .returned (.slice (some ⟨w.heap.size, 0, none⟩) l.length (l.length + 1)) ∧ Hid (LntR w w.heap.size l w') := by
  obtain ⟨n, hn'⟩ : ∃ n, l.length = n := ⟨_, rfl⟩
  obtain ⟨i, hi, hz0, hz1, hz2⟩ := info_parts infoR
  have hmk : ∀ v, (Instr.makeSlice 23 (.int .i64 ((n : Int) + 1)) (.int .i64 ((n : Int) + 1))).run Tryd.prog v = .ok (.slice (some ⟨v.heap.size, 0, none⟩) (n + 1) (n + 1)) (v.alloc (.cells (madeCells (rcC zR) ((n + 1) * 8)) 45)) := fun v => by
    have := run_make (P := Tryd.prog) v 23 45 i _ Tryd.underlying23 hi hz0 .i64 .i64 ((n : Int) + 1) ((n : Int) + 1) (by omega) (Int.le_refl _) (by rw [hz2]; omega) (by omega)
    rw [hz1, show ((n : Int) + 1).toNat = n + 1 by omega] at this
    exact this
  have hms : Hid ((madeCells (rcC zR) ((n + 1) * 8)).size = (n + 1) * 8) := by show _ = _; simp [size_madeCells]
  obtain ⟨M, hM⟩ : ∃ M, madeCells (rcC zR) ((n + 1) * 8) = M := ⟨_, rfl⟩
  rw [hM] at hmk hms
  rw [hn']
  have hli : (n : Int) ≤ 2147483647 := by omega
  have hnn : Hid (l.length = n) := hn'
  have hb : Hid (Tryd.prog.built 45 [(0, .int .u8 77)] = some (rcC M77)) := builtR 77
  have i0 := fun g v => idxP (g := g) (off := 0) (len := n + 1) (cap := n + 1) Tryd.underlying23 (s := 8) (by kernel_rfl) .i64 n v (by omega)
  simp only [Nat.zero_add] at i0
  clear hM hn hn' hi hz0 hz1 hz2
  obtain ⟨g, hg⟩ : ∃ g, w.heap.size = g := ⟨_, rfl⟩
  have hg' : Hid (w.heap.size = g) := hg
  rw [hg]
  have hA : Hid ((w.alloc (.cells M 45)).heap[g]? = some (.cells M 45 (0, 0)) ∧ LiesR (w.alloc (.cells M 45)) sp l ∧ Below w.heap.size w (w.alloc (.cells M 45))) := ⟨by rw [← hg]; exact alloc_last' w _, hl.out.below (below1 w _), below1 w _⟩
  have hmk' := hmk w
  rw [hg] at hmk'
  have i1 := i0 g
  clear hmk i0 hg
  go_enter Tryd.func10, Tryd.ntmps10
  go_wp2_with (refine at_copyR rfl (.tmp 8) (.tmp 9) rfl g (n + 1) (n + 1) sp n cap rfl rfl M hA.out.1 l hnn.out (by omega) hA.out.2.1 ?_ g (Nat.le_refl _) ?_)
  · rw [hms.out]; omega
  intro w1 H1
  have K1 : Hid (w1.heap[g]? = some (.cells (splice M.toList 0 (rowR l)).toArray 45 (0, 0)) ∧ Below w.heap.size w w1) := ⟨H1.out.1, hA.out.2.2.trans (H1.out.2.mono (by rw [hg'.out]; exact Nat.le_refl _))⟩
  have hml : M.toList.length = (n + 1) * 8 := by rw [Array.length_toList]; exact hms.out
  have hsl : Hid ((splice M.toList 0 (rowR l)).length = (n + 1) * 8) := (length_splice M.toList 0 (rowR l) (by rw [rowR_len, hnn.out, hml]; omega)).trans hml
  replace hml : Hid _ := hml
  have hth : Hid (w1.there g (n * 8) (rcC M77).size) := fun j hj => by
    rw [rcC_size] at hj
    refine ⟨?_, frozen_heap K1.out.1 _⟩
    have hl := hsl.out
    rw [cell_heap K1.out.1, List.getElem?_toArray, List.getElem?_eq_getElem (by omega)]
    rfl
  have fin : Hid (LntR w g l (w1.setCells g (n * 8) (rcC M77).toList)) := by
    refine ⟨?_, K1.out.2.trans (setCells_below _ g (by rw [hg'.out]; exact Nat.le_refl _) _ _ _)⟩
    have hl := hsl.out
    have := heap_setCells g 45 (rcC M77).toList (n * 8) w1 _ K1.out.1 (by rw [List.size_toArray, hl]; show n * 8 + 8 ≤ _; omega)
    rw [show ((splice M.toList 0 (rowR l)).toArray).toList = splice M.toList 0 (rowR l) by simp, splice_two (by rw [hml.out, Array.length_toList, rcC_size]; omega) (by rw [rowR_len, hnn.out])] at this
    rw [rowR_app]
    simp only [rowR, List.append_nil]
    exact this
  obtain ⟨X, hX⟩ : ∃ X, rcC M77 = X := ⟨_, rfl⟩
  have hX1 : Hid (X.all (·.oneCell') = true ∧ (Tryd.prog.info? 45).map (·.size) = some X.size) := by rw [← hX]; exact ⟨rcC_one _, sizeR⟩
  rw [hX] at hb hth fin
  clear H1 K1 hX hA hmk'
  go_wp2_with (first
    | ((with_reducible refine at_bu #[(0, .const (.int .u8 77))] [(0, .int .u8 77)] X ?_ ?_ ?_ hb.out ?_); kernel_rfl; rfl; kernel_rfl)
    | ((with_reducible refine wpList_store_mid ?_ 45 (.tmp 15) (.tmp 14) ?_ g (n * 8) X ?_ ?_ hth.out hX1.out.2 hX1.out.1 ?_); rfl; rfl; rfl; rfl))
  go_ret
  exact ⟨by first | rfl | simp, fin⟩
theorem back_any (w y : World) (g : Nat) (sp : Option Addr) (cap : Nat) (l : List Rc) (hg : w.heap.size ≤ g) (hL : Hid (LntR w g l y)) (hl : Hid (LiesR y sp l)) (hn : l.length ≤ 2147483647) :
    Calls Tryd.prog 13 #[.slice (some ⟨g, 0, none⟩) l.length (l.length + 1), .slice sp l.length cap] y fun e w' => e = .returned (.bool true) ∧ Cu w.heap.size (fun q _ => q = g) y w' := by
  have hS := same_eq y (some ⟨g, 0, none⟩) sp (l.length + 1) cap l hL.out.lies hl (by omega)
  have hm : ∀ z, Below y.heap.size y z → z.cell? ⟨g, l.length * 8, none⟩ = some (.int .u8 77) := fun z hb => (hL.out.below hb).mark
  obtain ⟨n, hn'⟩ : ∃ n, l.length = n := ⟨_, rfl⟩
  rw [hn'] at hS hm ⊢
  have hli : (n : Int) ≤ 2147483647 := by omega
  have i0 : ∀ v, (Instr.indexAt 23 (.slice (some ⟨g, 0, none⟩) (n + 1) (n + 1)) (.int .i64 (n : Int))).run Tryd.prog v = .ok (.pointer (some ⟨g, n * 8, none⟩)) v := fun v => by
    have := idxP (g := g) (off := 0) (len := n + 1) (cap := n + 1) Tryd.underlying23 (s := 8) (by kernel_rfl) .i64 n v (by omega)
    rw [Nat.zero_add] at this
    exact this
  have hb : Hid (Tryd.prog.built 45 [(0, .int .u8 78)] = some (rcC M78)) := builtR 78
  have H0 : Hid (∃ cur, y.heap[g]? = some (.cells cur 45 (0, 0)) ∧ cur.size = (n + 1) * 8) := ⟨_, hL.out.bx, by rw [List.size_toArray, rowR_len, List.length_append, hn']; rfl⟩
  have hlt : Hid (g < y.heap.size) := heap_lt hL.out.bx
  obtain ⟨X, hX⟩ : ∃ X, rcC M78 = X := ⟨_, rfl⟩
  have hX1 : Hid (X.all (·.oneCell') = true ∧ (Tryd.prog.info? 45).map (·.size) = some X.size ∧ X.size = 8) := by rw [← hX]; exact ⟨rcC_one _, sizeR, rfl⟩
  rw [hX] at hb
  have hg' : Hid (w.heap.size ≤ g) := hg
  have hnn : Hid (n ≤ 2147483647) := by show n ≤ 2147483647; omega
  replace hm : Hid _ := hm
  clear hX hn hn' hL hl hg
  go_enter Tryd.func13, Tryd.ntmps13
  go_wp2_with (go_at_call 34; refine hS.mono ?_; rintro e y1 ⟨rfl, hb1⟩; have d1 := hm.out y1 hb1; have K1 : Hid (Cu w.heap.size (fun q _ => q = g) y y1 ∧ ∃ cur, y1.heap[g]? = some (.cells cur 45 (0, 0)) ∧ cur.size = (n + 1) * 8) := (by obtain ⟨cur, h1, h2⟩ := H0.out; exact ⟨Cu.of_below hb1 (by have := hg'.out; have := hlt.out; omega), cur, (hb1.block g hlt.out).trans h1, h2⟩); clear hb1)
  go_loopw [7] (fun i wz => ∃ (k : Nat) (x : World), x = wz ∧ k ≤ n + 1 ∧ i = .int .i64 (k : Int) ∧ Hid (Cu w.heap.size (fun q _ => q = g) y x ∧ ∃ cur, x.heap[g]? = some (.cells cur 45 (0, 0)) ∧ cur.size = (n + 1) * 8)) (fun i _ => (n + 1 - intOf i).toNat)
  case atStart => exact ⟨0, y1, rfl, by omega, rfl, K1⟩
  case round =>
    obtain ⟨k, x, rfl, hk, rfl, K⟩ := hrel
    clear d1 K1 hS hm
    by_cases hlk : k < n + 1
    · have ij : ∀ v, (Instr.indexAt 23 (.slice (some ⟨g, 0, none⟩) (n + 1) (n + 1)) (.int .i64 (k : Int))).run Tryd.prog v = .ok (.pointer (some ⟨g, k * 8, none⟩)) v := fun v => by
        have := idxP (g := g) (off := 0) (len := n + 1) (cap := n + 1) Tryd.underlying23 (s := 8) (by kernel_rfl) .i64 k v hlk
        rw [Nat.zero_add] at this
        exact this
      have hth : Hid (x.there g (k * 8) X.size) := fun j hj => by
        obtain ⟨_, cur, h1, h2⟩ := K.out
        rw [hX1.out.2.2] at hj
        refine ⟨?_, frozen_heap h1 _⟩
        rw [cell_heap h1, Array.getElem?_eq_getElem (by omega)]
        rfl
      have fin : Hid (Cu w.heap.size (fun q _ => q = g) y (x.setCells g (k * 8) X.toList) ∧ ∃ cur, (x.setCells g (k * 8) X.toList).heap[g]? = some (.cells cur 45 (0, 0)) ∧ cur.size = (n + 1) * 8) := by
        obtain ⟨hC, cur, h1, h2⟩ := K.out
        have hxl : X.toList.length = 8 := by rw [Array.length_toList]; exact hX1.out.2.2
        refine ⟨hC.trans ((setCells_cu _ g _ hg'.out _ x).mono fun q j _ hF => hF.1), _, heap_setCells g _ _ _ x cur h1 (by rw [hxl]; omega), ?_⟩
        have := length_splice cur.toList (k * 8) X.toList (by rw [hxl, Array.length_toList]; omega)
        simpa [h2] using this
      have hki : (k : Int) < (n : Int) + 1 := by omega
      have hlk' : Hid (k < n + 1) := hlk
      clear K hlk hk
      go_wp2_with (first
        | ((with_reducible refine at_bu #[(0, .const (.int .u8 78))] [(0, .int .u8 78)] X ?_ ?_ ?_ hb.out ?_); kernel_rfl; rfl; kernel_rfl)
        | ((with_reducible refine wpList_store_mid ?_ 45 (.tmp 34) (.tmp 33) ?_ g (k * 8) X ?_ ?_ hth.out hX1.out.2.1 hX1.out.1 ?_); rfl; rfl; rfl; rfl))
      go_roundw
      case rel => exact ⟨k + 1, _, rfl, by have := hlk'.out; omega, by simp, fin⟩
      case measure => have := hlk'.out; simp [intOf]; omega
    · have hke : k = n + 1 := by omega
      subst hke
      clear hk hlk
      go_wp2
      go_ret
      exact ⟨by first | rfl | simp, K.out.1⟩

end Go.Proofs.YtoajmicdphffnaaDoor
