/- The statements' own lending of waves, and that they came back as they were. -/
import Derived.Test.YtdfjfacilbahkaaDoorUg
import Derived.Test.YtdfjfacilbahkaaDoorUk
import Derived.Test.YtdfjfacilbahkaaDoorLc
import Derived.Deep.MidRow
namespace Go.Proofs.YtdfjfacilbahkaaDoor
open Go Go.RowKit
set_option linter.unusedVariables false
set_option maxHeartbeats 400000
set_option maxRecDepth 20000

abbrev LntW (w : World) (g : Nat) (l : List (Int × Int)) (y : World) : Prop := Lnt 49 2 c2 (-77, 0) w g l y
theorem lent_any (w : World) (sp : Option Addr) (cap : Nat) (l : List (Int × Int)) (hl : Hid (L2 w sp l)) (hn : l.length ≤ 2147483647) :
    Calls Tryd.prog 13 #[.slice sp l.length cap] w fun e w' => e = .returned (.slice (some ⟨w.heap.size, 0, none⟩) l.length (l.length + 1)) ∧ Hid (LntW w w.heap.size l w') := by
  obtain ⟨n, hn'⟩ : ∃ n, l.length = n := ⟨_, rfl⟩
  obtain ⟨i, hi, hz0, hz1, hz2⟩ := info_parts infoWa
  have hmk : ∀ v, (Instr.makeSlice 24 (.int .i64 ((n : Int) + 1)) (.int .i64 ((n : Int) + 1))).run Tryd.prog v = .ok (.slice (some ⟨v.heap.size, 0, none⟩) (n + 1) (n + 1)) (v.alloc (.cells (madeCells (c2 (0, 0)).toArray ((n + 1) * 2)) 49)) := fun v => by
    have := run_make (P := Tryd.prog) v 24 49 i _ Tryd.underlying24 hi hz0 .i64 .i64 ((n : Int) + 1) ((n : Int) + 1) (by omega) (Int.le_refl _) (by rw [hz2]; omega) (by omega)
    rw [hz1, show ((n : Int) + 1).toNat = n + 1 by omega] at this
    exact this
  have hms : Hid ((madeCells (c2 (0, 0)).toArray ((n + 1) * 2)).size = (n + 1) * 2) := by show _ = _; simp [size_madeCells]
  obtain ⟨M, hM⟩ : ∃ M, madeCells (c2 (0, 0)).toArray ((n + 1) * 2) = M := ⟨_, rfl⟩
  rw [hM] at hmk hms
  rw [hn']
  have hli : (n : Int) ≤ 2147483647 := by omega
  have hnn : Hid (l.length = n) := hn'
  have hb : Hid (Tryd.prog.built 49 [(0, .int .i64 (-77))] = some (c2 (-77, 0)).toArray) := builtWa1 (-77)
  have i0 := fun g v => idxP (g := g) (off := 0) (len := n + 1) (cap := n + 1) Tryd.underlying24 (s := 2) (by kernel_rfl) .i64 n v (by omega)
  simp only [Nat.zero_add] at i0
  clear hM hn hn' hi hz0 hz1 hz2
  obtain ⟨g, hg⟩ : ∃ g, w.heap.size = g := ⟨_, rfl⟩
  have hg' : Hid (w.heap.size = g) := hg
  rw [hg]
  have hA : Hid ((w.alloc (.cells M 49)).heap[g]? = some (.cells M 49 (0, 0)) ∧ L2 (w.alloc (.cells M 49)) sp l ∧ Below w.heap.size w (w.alloc (.cells M 49))) := ⟨by rw [← hg]; exact alloc_last' w _, hl.out.below (below1 w _), below1 w _⟩
  have hmk' := hmk w
  rw [hg] at hmk'
  have i1 := i0 g
  clear hmk i0 hg
  go_enter Tryd.func13, Tryd.ntmps13
  go_wp2_with (refine at_copyL kWave rfl (.tmp 8) (.tmp 9) rfl g (n + 1) (n + 1) sp n cap rfl rfl M hA.out.1 l hnn.out (by omega) hA.out.2.1 ?_ g (Nat.le_refl _) ?_)
  · rw [hms.out]; omega
  intro w1 H1
  have K1 : Hid (w1.heap[g]? = some (.cells (splice M.toList 0 (rowL c2 l)).toArray 49 (0, 0)) ∧ Below w.heap.size w w1) := ⟨H1.out.1, hA.out.2.2.trans (H1.out.2.mono (by rw [hg'.out]; exact Nat.le_refl _))⟩
  have hml : M.toList.length = (n + 1) * 2 := by rw [Array.length_toList]; exact hms.out
  have hrl : (rowL c2 l).length = n * 2 := by rw [rowL_len kWave.len, hnn.out]
  have hsl : Hid ((splice M.toList 0 (rowL c2 l)).length = (n + 1) * 2) := (length_splice M.toList 0 (rowL c2 l) (by rw [hrl, hml]; omega)).trans hml
  have hth : Hid (w1.there g (n * 2) (c2 (-77, 0)).toArray.size) := fun j hj => by
    have hj : j < 2 := hj
    refine ⟨?_, frozen_heap K1.out.1 _⟩
    have hl := hsl.out
    rw [cell_heap K1.out.1, List.getElem?_toArray, List.getElem?_eq_getElem (by omega)]
    rfl
  have fin : Hid (LntW w g l (w1.setCells g (n * 2) (c2 (-77, 0)).toArray.toList)) := by
    refine ⟨?_, K1.out.2.trans (setCellsL_below _ g (by rw [hg'.out]; exact Nat.le_refl _) _ _ _)⟩
    have hl := hsl.out
    have := heapL_setCells g 49 (c2 (-77, 0)) (n * 2) w1 _ K1.out.1 (by rw [List.size_toArray, hl]; show n * 2 + 2 ≤ _; omega)
    rw [show ((splice M.toList 0 (rowL c2 l)).toArray).toList = splice M.toList 0 (rowL c2 l) by simp, spliceL_two (by rw [hml, kWave.len]; omega) hrl] at this
    rw [rowL_app, rowL_one]
    exact this
  obtain ⟨X, hX⟩ : ∃ X, (c2 (-77, 0)).toArray = X := ⟨_, rfl⟩
  have hX1 : Hid (X.all (·.oneCell') = true ∧ (Tryd.prog.info? 49).map (·.size) = some X.size) := by rw [← hX]; exact ⟨c2_all _, rtWa.i⟩
  rw [hX] at hb hth fin
  clear H1 K1 hX hA hmk' hml hrl hsl
  go_wp2_with (first
    | ((with_reducible refine at_bu #[(0, .const (.int .i64 (-77)))] [(0, .int .i64 (-77))] X ?_ ?_ ?_ hb.out ?_); kernel_rfl; rfl; kernel_rfl)
    | ((with_reducible refine wpList_store_mid ?_ 49 (.tmp 15) (.tmp 14) ?_ g (n * 2) X ?_ ?_ hth.out hX1.out.2 hX1.out.1 ?_); rfl; rfl; rfl; rfl))
  go_ret
  exact ⟨by first | rfl | simp, fin⟩
theorem back_any (w y : World) (g : Nat) (sp : Option Addr) (cap : Nat) (l : List (Int × Int)) (hg : w.heap.size ≤ g) (hL : Hid (LntW w g l y)) (hl : Hid (L2 y sp l)) (hn : l.length ≤ 2147483647) :
    Calls Tryd.prog 15 #[.slice (some ⟨g, 0, none⟩) l.length (l.length + 1), .slice sp l.length cap] y fun e w' => e = .returned (.bool true) ∧ Hid (CuL w.heap.size (fun q _ => q = g) y w') := by
  have hS := sameW_any y (some ⟨g, 0, none⟩) sp (l.length + 1) cap l l (hL.out.lies kWave.len) hl (by omega) (by omega)
  rw [decide_eq_true rfl] at hS
  have hm : ∀ z, Below y.heap.size y z → z.cell? ⟨g, l.length * 2, none⟩ = some (.int .i64 (-77)) := fun z hb => by
    have := (hL.out.below hb).mark kWave.len 0 (.int .i64 (-77)) rfl
    rwa [Nat.add_zero] at this
  obtain ⟨n, hn'⟩ : ∃ n, l.length = n := ⟨_, rfl⟩
  rw [hn'] at hS hm ⊢
  have hli : (n : Int) ≤ 2147483647 := by omega
  have i0 : ∀ v, (Instr.indexAt 24 (.slice (some ⟨g, 0, none⟩) (n + 1) (n + 1)) (.int .i64 (n : Int))).run Tryd.prog v = .ok (.pointer (some ⟨g, n * 2, none⟩)) v := fun v => by
    have := idxP (g := g) (off := 0) (len := n + 1) (cap := n + 1) Tryd.underlying24 (s := 2) (by kernel_rfl) .i64 n v (by omega)
    rw [Nat.zero_add] at this
    exact this
  have hb : Hid (Tryd.prog.built 49 [(0, .int .i64 (-78))] = some (c2 (-78, 0)).toArray) := builtWa1 (-78)
  have H0 : Hid (∃ cur, y.heap[g]? = some (.cells cur 49 (0, 0)) ∧ cur.size = (n + 1) * 2) := ⟨_, hL.out.bx, by rw [List.size_toArray, rowL_len kWave.len, List.length_append, hn']; rfl⟩
  have hlt : Hid (g < y.heap.size) := heap_lt hL.out.bx
  obtain ⟨X, hX⟩ : ∃ X, (c2 (-78, 0)).toArray = X := ⟨_, rfl⟩
  have hX1 : Hid (X.all (·.oneCell') = true ∧ (Tryd.prog.info? 49).map (·.size) = some X.size ∧ X.size = 2) := by rw [← hX]; exact ⟨c2_all _, rtWa.i, rfl⟩
  rw [hX] at hb
  have hg' : Hid (w.heap.size ≤ g) := hg
  have hnn : Hid (n ≤ 2147483647) := by show n ≤ 2147483647; omega
  replace hm : Hid _ := hm
  clear hX hn hn' hL hl hg
  go_enter Tryd.func15, Tryd.ntmps15
  go_wp2_with (go_at_call 22; refine hS.mono ?_; rintro e y1 ⟨rfl, hb1⟩; have d1 := hm.out y1 hb1; have K1 : Hid (CuL w.heap.size (fun q _ => q = g) y y1 ∧ ∃ cur, y1.heap[g]? = some (.cells cur 49 (0, 0)) ∧ cur.size = (n + 1) * 2) := (by obtain ⟨cur, h1, h2⟩ := H0.out; exact ⟨CuL.of_below hb1 (by have := hg'.out; have := hlt.out; omega), cur, (hb1.block g hlt.out).trans h1, h2⟩); clear hb1)
  go_loopw [7] (fun i wz => ∃ (k : Nat) (x : World), x = wz ∧ k ≤ n + 1 ∧ i = .int .i64 (k : Int) ∧ Hid (CuL w.heap.size (fun q _ => q = g) y x ∧ ∃ cur, x.heap[g]? = some (.cells cur 49 (0, 0)) ∧ cur.size = (n + 1) * 2)) (fun i _ => (n + 1 - intOf i).toNat)
  case atStart => exact ⟨0, y1, rfl, by omega, rfl, K1⟩
  case round =>
    obtain ⟨k, x, rfl, hk, rfl, K⟩ := hrel
    clear d1 K1 hS hm
    by_cases hlk : k < n + 1
    · have ij : ∀ v, (Instr.indexAt 24 (.slice (some ⟨g, 0, none⟩) (n + 1) (n + 1)) (.int .i64 (k : Int))).run Tryd.prog v = .ok (.pointer (some ⟨g, k * 2, none⟩)) v := fun v => by
        have := idxP (g := g) (off := 0) (len := n + 1) (cap := n + 1) Tryd.underlying24 (s := 2) (by kernel_rfl) .i64 k v hlk
        rw [Nat.zero_add] at this
        exact this
      have hth : Hid (x.there g (k * 2) X.size) := fun j hj => by
        obtain ⟨_, cur, h1, h2⟩ := K.out
        rw [hX1.out.2.2] at hj
        refine ⟨?_, frozen_heap h1 _⟩
        rw [cell_heap h1, Array.getElem?_eq_getElem (by omega)]
        rfl
      have fin : Hid (CuL w.heap.size (fun q _ => q = g) y (x.setCells g (k * 2) X.toList) ∧ ∃ cur, (x.setCells g (k * 2) X.toList).heap[g]? = some (.cells cur 49 (0, 0)) ∧ cur.size = (n + 1) * 2) := by
        obtain ⟨hC, cur, h1, h2⟩ := K.out
        have hxl : X.toList.length = 2 := by rw [Array.length_toList]; exact hX1.out.2.2
        refine ⟨hC.trans ((setCellsL_cu _ g _ hg'.out _ x).mono fun q j _ hF => hF.1), _, heapL_setCells g _ _ _ x cur h1 (by rw [hxl]; omega), ?_⟩
        have := length_splice cur.toList (k * 2) X.toList (by rw [hxl, Array.length_toList]; omega)
        simpa [h2] using this
      have hki : (k : Int) < (n : Int) + 1 := by omega
      have hlk' : Hid (k < n + 1) := hlk
      clear K hlk hk
      go_wp2_with (first
        | ((with_reducible refine at_bu #[(0, .const (.int .i64 (-78)))] [(0, .int .i64 (-78))] X ?_ ?_ ?_ hb.out ?_); kernel_rfl; rfl; kernel_rfl)
        | ((with_reducible refine wpList_store_mid ?_ 49 (.tmp 34) (.tmp 33) ?_ g (k * 2) X ?_ ?_ hth.out hX1.out.2.1 hX1.out.1 ?_); rfl; rfl; rfl; rfl))
      go_roundw
      case rel => exact ⟨k + 1, _, rfl, by have := hlk'.out; omega, by simp, fin⟩
      case measure => have := hlk'.out; simp [intOf]; omega
    · have hke : k = n + 1 := by omega
      subst hke
      clear hk hlk
      go_wp2
      go_ret
      exact ⟨by first | rfl | simp, K.out.1⟩
end Go.Proofs.YtdfjfacilbahkaaDoor
