/- The statements' own lending of spans, and that they came back as they were. -/
import Derived.Test.YthpahpfnpapoiaaDoorXk
namespace Go.Proofs.YthpahpfnpapoiaaDoor
open Go Go.RowKit
set_option linter.unusedVariables false
set_option maxHeartbeats 400000
set_option maxRecDepth 20000

theorem run_copy0 (w : World) (ty : TypeId) (d a : Option Addr) (dLen dCap sCap : Nat) :
    (Builtin.copy_ #[23, 23] ty #[.slice d dLen dCap, .slice a 0 sCap]).run Tryd.prog w = .ok (goInt 0) w := by
  obtain ⟨i, hi, hz0, hz1, hz2⟩ := info_parts infoS
  have hl : ∀ (x : Addr), (loadCells x 0).run Tryd.prog w = .ok #[] w := fun x => by simpa using run_loadCells_list (P := Tryd.prog) w x [] (by simp)
  cases d <;> cases a <;> simp [Builtin.copy_, run_underlying Tryd.underlying23, Builtin.lenOf, Builtin.firstCells, sizeOf, typeInfo, hi, storeCells, hl]
theorem run_copyS (w : World) (ty : TypeId) (g dLen dCap : Nat) (ad : Addr) (sLen sCap : Nat) (cur : Array Value) (cs : List Value)
    (hg : w.heap[g]? = some (.cells cur 34 (0, 0))) (hn : cs.length = sLen * 10) (hle : sLen ≤ dLen)
    (hsrc : ∀ j v, cs[j]? = some v → w.cell? (ad.add j) = some v) (hfit : cs.length ≤ cur.size) (h1 : ∀ v ∈ cs, v.oneCell' = true) :
    (Builtin.copy_ #[23, 23] ty #[.slice (some ⟨g, 0, none⟩) dLen dCap, .slice (some ad) sLen sCap]).run Tryd.prog w = .ok (goInt sLen) (w.setRow g (splice cur.toList 0 cs).toArray) := by
  obtain ⟨i, hi, hz0, hz1, hz2⟩ := info_parts infoS
  have hl := run_loadCells_list (P := Tryd.prog) w ad cs hsrc
  have hst := run_storeCells_at Tryd.prog g 0 34 cs 0 cur w hg (by simpa using hfit) h1
  rw [hn] at hl
  have hm : Nat.min sLen dLen = sLen := Nat.min_eq_left hle
  simp [Builtin.copy_, run_underlying Tryd.underlying23, Builtin.lenOf, Builtin.firstCells, sizeOf, typeInfo, hi, hz1, hm, hl, hst, splice]
theorem at_copyS {ops : Array Oper} {rest : List Oper} {o : Oper} {a : Act} {w : World} {Q : Exit → Act → World → Prop} (hgd : o.guard = none) (d s : Operand)
    (ho : o.op = .call { callee := .builtin .copy, args := #[d, s], argTypes := #[23, 23] })
    (g dLen dCap : Nat) (sp : Option Addr) (sLen sCap : Nat) (hd : a.eval d = .slice (some ⟨g, 0, none⟩) dLen dCap) (hs : a.eval s = .slice sp sLen sCap)
    (cur : Array Value) (hg : w.heap[g]? = some (.cells cur 34 (0, 0))) (l : List Sn) (hlen : l.length = sLen) (hle : sLen ≤ dLen) (hl : LiesS w sp l) (hfit : sLen * 10 ≤ cur.size)
    (B : Nat) (hBg : B ≤ g) (h : ∀ w', Hid (w'.heap[g]? = some (.cells (splice cur.toList 0 (rowS l)).toArray 34 (0, 0)) ∧ Below B w w') → wpList Tryd.prog ops Q rest (a.put o.dst (goInt sLen)) w') : wpList Tryd.prog ops Q (o :: rest) a w := by
  refine wpList_plain hgd fun K hK => ?_
  by_cases h0 : sLen = 0
  · subst h0
    have hl0 : l = [] := List.eq_nil_of_length_eq_zero hlen
    subst hl0
    have hrun := run_copy0 w o.type (some ⟨g, 0, none⟩) sp dLen dCap sCap
    unfold Oper.wp
    simp [execOp, ho, resolve, invoke, builtin, hd, hs, hrun, Result.andThen]
    refine hK _ _ (h w ⟨?_, Below.refl _ _⟩)
    have e : splice cur.toList 0 (rowS []) = cur.toList := by simp [splice, rowS]
    rw [e]
    exact hg
  · obtain ⟨gb, ob, rfl, _⟩ := hl 0 _ (List.getElem?_eq_getElem (by omega))
    have hsrc : ∀ j v, (rowS l)[j]? = some v → w.cell? ((⟨gb, ob, none⟩ : Addr).add j) = some v := fun j v hv => by
      have hj := (List.getElem?_eq_some_iff.1 hv).1
      rw [rowS_len] at hj
      obtain ⟨gb', ob', e, hr⟩ := hl (j / 10) _ (List.getElem?_eq_getElem (by omega))
      cases e
      rw [Addr.add_lit]
      have e1 : (rowS l)[j / 10 * 10 + j % 10]? = some v := by rw [show j / 10 * 10 + j % 10 = j by omega]; exact hv
      rw [rowS_at l (j / 10) (j % 10) _ (List.getElem?_eq_getElem (by omega)) (by omega)] at e1
      have := rangeC hr (j % 10) v e1
      rw [show ob + j / 10 * 10 + j % 10 = ob + j by omega] at this
      exact this
    have hrun := run_copyS w o.type g dLen dCap ⟨gb, ob, none⟩ sLen sCap cur (rowS l) hg (by rw [rowS_len, hlen]) hle hsrc (by rw [rowS_len, hlen]; exact hfit) (rowS_one l)
    unfold Oper.wp
    simp [execOp, ho, resolve, invoke, builtin, hd, hs, hrun, Result.andThen]
    exact hK _ _ (h _ ⟨setRow_heap w g cur _ _ _ hg, below_setRow (Below.refl _ _) hBg _⟩)
/-- What was lent: the spans, and a mark behind them. -/
structure LntS (w : World) (g : Nat) (l : List Sn) (y : World) : Prop where
  bx : Bx y g (rowS (l ++ [⟨-77, zeroA⟩])).toArray 34
  low : Below w.heap.size w y
theorem LntS.below {w y z : World} {g : Nat} {l : List Sn} (h : LntS w g l y) (hb : Below y.heap.size y z) : LntS w g l z := ⟨(hb.block g (heap_lt h.bx)).trans h.bx, h.low.trans (hb.mono h.low.size)⟩
theorem LntS.lies {w y : World} {g : Nat} {l : List Sn} (h : LntS w g l y) : LiesS y (some ⟨g, 0, none⟩) l := fun j s hj => ⟨g, 0, rfl, bx_range h.bx j s (by rw [List.getElem?_append_left (List.getElem?_eq_some_iff.1 hj).1]; exact hj)⟩
theorem LntS.mark {w y : World} {g : Nat} {l : List Sn} (h : LntS w g l y) : y.cell? ⟨g, l.length * 10, none⟩ = some (.int .i64 (-77)) := by
  have := rangeC (bx_range h.bx l.length ⟨-77, zeroA⟩ (by rw [List.getElem?_append_right (Nat.le_refl _), Nat.sub_self]; rfl)) 0 _ (spC_c _)
  rw [Nat.zero_add, Nat.add_zero] at this
  exact this
theorem splice_two {M R S : List Value} {n : Nat} (hM : M.length = n + S.length) (hR : R.length = n) : splice (splice M 0 R) n S = R ++ S := by
  have e : splice M 0 R = R ++ M.drop n := by unfold splice; simp [hR]
  rw [e]
  unfold splice
  rw [List.take_left' hR, List.drop_eq_nil_of_le (by rw [List.length_append, List.length_drop]; omega), List.append_nil]
theorem lent_any (w : World) (sp : Option Addr) (cap : Nat) (l : List Sn) (hl : Hid (LiesS w sp l)) (hn : l.length ≤ 2147483647) :
    Calls Tryd.prog 10 #[.slice sp l.length cap] w fun e w' => e = .returned (.slice (some ⟨w.heap.size, 0, none⟩) l.length (l.length + 1)) ∧ Hid (LntS w w.heap.size l w') := by
  obtain ⟨n, hn'⟩ : ∃ n, l.length = n := ⟨_, rfl⟩
  obtain ⟨i, hi, hz0, hz1, hz2⟩ := info_parts infoS
  have hmk : ∀ v, (Instr.makeSlice 23 (.int .i64 ((n : Int) + 1)) (.int .i64 ((n : Int) + 1))).run Tryd.prog v = .ok (.slice (some ⟨v.heap.size, 0, none⟩) (n + 1) (n + 1)) (v.alloc (.cells (madeCells (spC ⟨0, zeroA⟩) ((n + 1) * 10)) 34)) := fun v => by
    have := run_make (P := Tryd.prog) v 23 34 i _ Tryd.underlying23 hi hz0 .i64 .i64 ((n : Int) + 1) ((n : Int) + 1) (by omega) (Int.le_refl _) (by rw [hz2]; omega) (by omega)
    rw [hz1, show ((n : Int) + 1).toNat = n + 1 by omega] at this
    exact this
  have hms : Hid ((madeCells (spC ⟨0, zeroA⟩) ((n + 1) * 10)).size = (n + 1) * 10) := by show _ = _; simp [size_madeCells]
  obtain ⟨M, hM⟩ : ∃ M, madeCells (spC ⟨0, zeroA⟩) ((n + 1) * 10) = M := ⟨_, rfl⟩
  rw [hM] at hmk hms
  rw [hn']
  have hli : (n : Int) ≤ 2147483647 := by omega
  have hnn : Hid (l.length = n) := hn'
  have hb : Hid (Tryd.prog.built 34 [(0, .int .i64 (-77))] = some (spC ⟨-77, zeroA⟩)) := builtS (-77)
  have i0 := fun g v => idxP (g := g) (off := 0) (len := n + 1) (cap := n + 1) Tryd.underlying23 (s := 10) (by kernel_rfl) .i64 n v (by omega)
  simp only [Nat.zero_add] at i0
  clear hM hn hn' hi hz0 hz1 hz2
  obtain ⟨g, hg⟩ : ∃ g, w.heap.size = g := ⟨_, rfl⟩
  have hg' : Hid (w.heap.size = g) := hg
  rw [hg]
  have hA : Hid ((w.alloc (.cells M 34)).heap[g]? = some (.cells M 34 (0, 0)) ∧ LiesS (w.alloc (.cells M 34)) sp l ∧ Below w.heap.size w (w.alloc (.cells M 34))) := ⟨by rw [← hg]; exact alloc_last' w _, hl.out.below (below1 w _), below1 w _⟩
  have hmk' := hmk w
  rw [hg] at hmk'
  have i1 := i0 g
  clear hmk i0 hg
  go_enter Tryd.func10, Tryd.ntmps10
  go_wp2_with (refine at_copyS rfl (.tmp 8) (.tmp 9) rfl g (n + 1) (n + 1) sp n cap rfl rfl M hA.out.1 l hnn.out (by omega) hA.out.2.1 ?_ g (Nat.le_refl _) ?_)
  · rw [hms.out]; omega
  intro w1 H1
  have K1 : Hid (w1.heap[g]? = some (.cells (splice M.toList 0 (rowS l)).toArray 34 (0, 0)) ∧ Below w.heap.size w w1) := ⟨H1.out.1, hA.out.2.2.trans (H1.out.2.mono (by rw [hg'.out]; exact Nat.le_refl _))⟩
  have hml : M.toList.length = (n + 1) * 10 := by rw [Array.length_toList]; exact hms.out
  have hsl : Hid ((splice M.toList 0 (rowS l)).length = (n + 1) * 10) := (length_splice M.toList 0 (rowS l) (by rw [rowS_len, hnn.out, hml]; omega)).trans hml
  replace hml : Hid _ := hml
  have hth : Hid (w1.there g (n * 10) (spC ⟨-77, zeroA⟩).size) := fun j hj => by
    rw [spC_size] at hj
    refine ⟨?_, frozen_heap K1.out.1 _⟩
    have hl := hsl.out
    rw [cell_heap K1.out.1, List.getElem?_toArray, List.getElem?_eq_getElem (by omega)]
    rfl
  have fin : Hid (LntS w g l (w1.setCells g (n * 10) (spC ⟨-77, zeroA⟩).toList)) := by
    refine ⟨?_, K1.out.2.trans (setCells_below _ g (by rw [hg'.out]; exact Nat.le_refl _) _ _ _)⟩
    have hl := hsl.out
    have := heap_setCells g 34 (spC ⟨-77, zeroA⟩).toList (n * 10) w1 _ K1.out.1 (by rw [List.size_toArray, hl]; show n * 10 + 10 ≤ _; omega)
    rw [show ((splice M.toList 0 (rowS l)).toArray).toList = splice M.toList 0 (rowS l) by simp, splice_two (by rw [hml.out, Array.length_toList, spC_size]; omega) (by rw [rowS_len, hnn.out])] at this
    rw [rowS_app]
    simp only [rowS, List.append_nil]
    exact this
  obtain ⟨X, hX⟩ : ∃ X, spC ⟨-77, zeroA⟩ = X := ⟨_, rfl⟩
  have hX1 : Hid (X.all (·.oneCell') = true ∧ (Tryd.prog.info? 34).map (·.size) = some X.size) := by rw [← hX]; exact ⟨spC_one _, sizeS⟩
  rw [hX] at hb hth fin
  clear H1 K1 hX hA hmk'
  go_wp2_with (first
    | ((with_reducible refine at_bu #[(0, .const (.int .i64 (-77)))] [(0, .int .i64 (-77))] X ?_ ?_ ?_ hb.out ?_); kernel_rfl; rfl; kernel_rfl)
    | ((with_reducible refine wpList_store_mid ?_ 34 (.tmp 15) (.tmp 14) ?_ g (n * 10) X ?_ ?_ hth.out hX1.out.2 hX1.out.1 ?_); rfl; rfl; rfl; rfl))
  go_ret
  exact ⟨by first | rfl | simp, fin⟩
theorem back_any (w y : World) (g : Nat) (sp : Option Addr) (cap : Nat) (l : List Sn) (hg : w.heap.size ≤ g) (hL : Hid (LntS w g l y)) (hl : Hid (LiesS y sp l)) (hn : l.length ≤ 2147483647) :
    Calls Tryd.prog 13 #[.slice (some ⟨g, 0, none⟩) l.length (l.length + 1), .slice sp l.length cap] y fun e w' => e = .returned (.bool true) ∧ Cu w.heap.size (fun q _ => q = g) y w' := by
  have hS := rsame_any y (some ⟨g, 0, none⟩) sp (l.length + 1) cap l l hL.out.lies hl (by omega) (by omega)
  rw [(sameB_iff l l).2 rfl] at hS
  have hm : ∀ z, Below y.heap.size y z → z.cell? ⟨g, l.length * 10, none⟩ = some (.int .i64 (-77)) := fun z hb => (hL.out.below hb).mark
  obtain ⟨n, hn'⟩ : ∃ n, l.length = n := ⟨_, rfl⟩
  rw [hn'] at hS hm ⊢
  have hli : (n : Int) ≤ 2147483647 := by omega
  have i0 : ∀ v, (Instr.indexAt 23 (.slice (some ⟨g, 0, none⟩) (n + 1) (n + 1)) (.int .i64 (n : Int))).run Tryd.prog v = .ok (.pointer (some ⟨g, n * 10, none⟩)) v := fun v => by
    have := idxP (g := g) (off := 0) (len := n + 1) (cap := n + 1) Tryd.underlying23 (s := 10) (by kernel_rfl) .i64 n v (by omega)
    rw [Nat.zero_add] at this
    exact this
  have hb : Hid (Tryd.prog.built 34 [(0, .int .i64 (-78))] = some (spC ⟨-78, zeroA⟩)) := builtS (-78)
  have H0 : Hid (∃ cur, y.heap[g]? = some (.cells cur 34 (0, 0)) ∧ cur.size = (n + 1) * 10) := ⟨_, hL.out.bx, by rw [List.size_toArray, rowS_len, List.length_append, hn']; rfl⟩
  have hlt : Hid (g < y.heap.size) := heap_lt hL.out.bx
  obtain ⟨X, hX⟩ : ∃ X, spC ⟨-78, zeroA⟩ = X := ⟨_, rfl⟩
  have hX1 : Hid (X.all (·.oneCell') = true ∧ (Tryd.prog.info? 34).map (·.size) = some X.size ∧ X.size = 10) := by rw [← hX]; exact ⟨spC_one _, sizeS, rfl⟩
  rw [hX] at hb
  have hg' : Hid (w.heap.size ≤ g) := hg
  have hnn : Hid (n ≤ 2147483647) := by show n ≤ 2147483647; omega
  replace hm : Hid _ := hm
  clear hX hn hn' hL hl hg
  go_enter Tryd.func13, Tryd.ntmps13
  go_wp2_with (go_at_call 29; refine hS.mono ?_; rintro e y1 ⟨rfl, hb1⟩; have d1 := hm.out y1 hb1; have K1 : Hid (Cu w.heap.size (fun q _ => q = g) y y1 ∧ ∃ cur, y1.heap[g]? = some (.cells cur 34 (0, 0)) ∧ cur.size = (n + 1) * 10) := (by obtain ⟨cur, h1, h2⟩ := H0.out; exact ⟨Cu.of_below hb1 (by have := hg'.out; have := hlt.out; omega), cur, (hb1.block g hlt.out).trans h1, h2⟩); clear hb1)
  go_loopw [7] (fun i wz => ∃ (k : Nat) (x : World), x = wz ∧ k ≤ n + 1 ∧ i = .int .i64 (k : Int) ∧ Hid (Cu w.heap.size (fun q _ => q = g) y x ∧ ∃ cur, x.heap[g]? = some (.cells cur 34 (0, 0)) ∧ cur.size = (n + 1) * 10)) (fun i _ => (n + 1 - intOf i).toNat)
  case atStart => exact ⟨0, y1, rfl, by omega, rfl, K1⟩
  case round =>
    obtain ⟨k, x, rfl, hk, rfl, K⟩ := hrel
    clear d1 K1 hS hm
    by_cases hlk : k < n + 1
    · have ij : ∀ v, (Instr.indexAt 23 (.slice (some ⟨g, 0, none⟩) (n + 1) (n + 1)) (.int .i64 (k : Int))).run Tryd.prog v = .ok (.pointer (some ⟨g, k * 10, none⟩)) v := fun v => by
        have := idxP (g := g) (off := 0) (len := n + 1) (cap := n + 1) Tryd.underlying23 (s := 10) (by kernel_rfl) .i64 k v hlk
        rw [Nat.zero_add] at this
        exact this
      have hth : Hid (x.there g (k * 10) X.size) := fun j hj => by
        obtain ⟨_, cur, h1, h2⟩ := K.out
        rw [hX1.out.2.2] at hj
        refine ⟨?_, frozen_heap h1 _⟩
        rw [cell_heap h1, Array.getElem?_eq_getElem (by omega)]
        rfl
      have fin : Hid (Cu w.heap.size (fun q _ => q = g) y (x.setCells g (k * 10) X.toList) ∧ ∃ cur, (x.setCells g (k * 10) X.toList).heap[g]? = some (.cells cur 34 (0, 0)) ∧ cur.size = (n + 1) * 10) := by
        obtain ⟨hC, cur, h1, h2⟩ := K.out
        have hxl : X.toList.length = 10 := by rw [Array.length_toList]; exact hX1.out.2.2
        refine ⟨hC.trans ((setCells_cu _ g _ hg'.out _ x).mono fun q j _ hF => hF.1), _, heap_setCells g _ _ _ x cur h1 (by rw [hxl]; omega), ?_⟩
        have := length_splice cur.toList (k * 10) X.toList (by rw [hxl, Array.length_toList]; omega)
        simpa [h2] using this
      have hki : (k : Int) < (n : Int) + 1 := by omega
      have hlk' : Hid (k < n + 1) := hlk
      clear K hlk hk
      go_wp2_with (first
        | ((with_reducible refine at_bu #[(0, .const (.int .i64 (-78)))] [(0, .int .i64 (-78))] X ?_ ?_ ?_ hb.out ?_); kernel_rfl; rfl; kernel_rfl)
        | ((with_reducible refine wpList_store_mid ?_ 34 (.tmp 34) (.tmp 33) ?_ g (k * 10) X ?_ ?_ hth.out hX1.out.2.1 hX1.out.1 ?_); rfl; rfl; rfl; rfl))
      go_roundw
      case rel => exact ⟨k + 1, _, rfl, by have := hlk'.out; omega, by simp, fin⟩
      case measure => have := hlk'.out; simp [intOf]; omega
    · have hke : k = n + 1 := by omega
      subst hke
      clear hk hlk
      go_wp2
      go_ret
      exact ⟨by first | rfl | simp, K.out.1⟩
end Go.Proofs.YthpahpfnpapoiaaDoor
