/- The statement on Unpack: the walk. -/
import Derived.Test.YthhobmdhefbafaaDoorJb0
namespace Go.Proofs.YthhobmdhefbafaaDoor
open Go Go.RowKit
set_option linter.unusedVariables false
set_option maxHeartbeats 2000000
set_option maxRecDepth 20000

theorem run_copyB0 (w : World) (ty : TypeId) (d a : Option Addr) (dLen dCap sCap : Nat) :
    (Builtin.copy_ #[34, 34] ty #[.slice d dLen dCap, .slice a 0 sCap]).run Tryd.prog w = .ok (goInt 0) w := by
  obtain ⟨i, hi, hz0, hz1, hz2⟩ := info_parts infoB
  have hl : ∀ (x : Addr), (loadCells x 0).run Tryd.prog w = .ok #[] w := fun x => by simpa using run_loadCells_list (P := Tryd.prog) w x [] (by simp)
  cases d <;> cases a <;> simp [Builtin.copy_, run_underlying Tryd.underlying34, Builtin.lenOf, Builtin.firstCells, sizeOf, typeInfo, hi, storeCells, hl]
theorem run_copyB (w : World) (ty : TypeId) (g dLen dCap : Nat) (ad : Addr) (sLen sCap : Nat) (cur : Array Value) (cs : List Value)
    (hg : w.heap[g]? = some (.cells cur 5 (0, 0))) (hn : cs.length = sLen) (hle : sLen ≤ dLen)
    (hsrc : ∀ j v, cs[j]? = some v → w.cell? (ad.add j) = some v) (hfit : cs.length ≤ cur.size) (h1 : ∀ v ∈ cs, v.oneCell' = true) :
    (Builtin.copy_ #[34, 34] ty #[.slice (some ⟨g, 0, none⟩) dLen dCap, .slice (some ad) sLen sCap]).run Tryd.prog w = .ok (goInt sLen) (w.setRow g (splice cur.toList 0 cs).toArray) := by
  obtain ⟨i, hi, hz0, hz1, hz2⟩ := info_parts infoB
  have hl := run_loadCells_list (P := Tryd.prog) w ad cs hsrc
  have hst := run_storeCells_at Tryd.prog g 0 5 cs 0 cur w hg (by simpa using hfit) h1
  rw [hn] at hl
  have hm : Nat.min sLen dLen = sLen := Nat.min_eq_left hle
  simp [Builtin.copy_, run_underlying Tryd.underlying34, Builtin.lenOf, Builtin.firstCells, sizeOf, typeInfo, hi, hz1, hm, hl, hst, splice]
theorem at_copyB {ops : Array Oper} {rest : List Oper} {o : Oper} {a : Act} {w : World} {Q : Exit → Act → World → Prop} (hgd : o.guard = none) (d s : Operand)
    (ho : o.op = .call { callee := .builtin .copy, args := #[d, s], argTypes := #[34, 34] })
    (g dLen dCap : Nat) (sp : Option Addr) (sLen sCap : Nat) (hd : a.eval d = .slice (some ⟨g, 0, none⟩) dLen dCap) (hs : a.eval s = .slice sp sLen sCap)
    (cur : Array Value) (hg : w.heap[g]? = some (.cells cur 5 (0, 0))) (l : List UInt8) (hlen : l.length = sLen) (hle : sLen ≤ dLen) (hl : LiesB w sp l) (hfit : sLen ≤ cur.size)
    (B : Nat) (hBg : B ≤ g) (h : ∀ w', Hid (w'.heap[g]? = some (.cells (splice cur.toList 0 (l.map byV)).toArray 5 (0, 0)) ∧ Below B w w') → wpList Tryd.prog ops Q rest (a.put o.dst (goInt sLen)) w') : wpList Tryd.prog ops Q (o :: rest) a w := by
  refine wpList_plain hgd fun K hK => ?_
  by_cases h0 : sLen = 0
  · subst h0
    have hl0 : l = [] := List.eq_nil_of_length_eq_zero hlen
    subst hl0
    have hrun := run_copyB0 w o.type (some ⟨g, 0, none⟩) sp dLen dCap sCap
    unfold Oper.wp
    simp [execOp, ho, resolve, invoke, builtin, hd, hs, hrun, Result.andThen]
    refine hK _ _ (h w ⟨?_, Below.refl _ _⟩)
    have e : splice cur.toList 0 (([] : List UInt8).map byV) = cur.toList := by simp [splice]
    rw [e]
    exact hg
  · obtain ⟨gb, ob, rfl, _⟩ := hl 0 _ (List.getElem?_eq_getElem (by omega))
    have hsrc : ∀ j v, (l.map byV)[j]? = some v → w.cell? ((⟨gb, ob, none⟩ : Addr).add j) = some v := fun j v hv => by
      rw [List.getElem?_map] at hv
      cases hj : l[j]? with
      | none => rw [hj] at hv; cases hv
      | some b =>
        rw [hj] at hv
        obtain ⟨gb', ob', e, c⟩ := hl j b hj
        cases e
        rw [Addr.add_lit, c]
        exact hv
    have hrun := run_copyB w o.type g dLen dCap ⟨gb, ob, none⟩ sLen sCap cur (l.map byV) hg (by rw [List.length_map, hlen]) hle hsrc (by rw [List.length_map, hlen]; exact hfit) (fun v hv => by obtain ⟨b, _, rfl⟩ := List.mem_map.1 hv; rfl)
    unfold Oper.wp
    simp [execOp, ho, resolve, invoke, builtin, hd, hs, hrun, Result.andThen]
    exact hK _ _ (h _ ⟨setRow_heap w g cur _ _ _ hg, below_setRow (Below.refl _ _) hBg _⟩)
/-- A list of records stands, whatever is written into a block of bytes. -/
theorem OwnR.byte {B : Nat} {y : World} {v : Value} {l : List Rc} {g : Nat} {cur : Array Value} (h : OwnR B y v l) (hg : y.heap[g]? = some (.cells cur 5 (0, 0))) (k : Nat) (x : Value) : OwnR B (y.setCell ⟨g, k, none⟩ x) v l := by
  refine h.keepB fun q e => heap_setCell_other y ⟨g, k, none⟩ q x fun e2 => ?_
  rcases h.2 with ⟨h0, _⟩ | ⟨g', cap, c, hv, _, hq, _⟩
  · rw [h0] at e; cases e
  · rw [hv] at e
    have : g' = q := by simpa [Value.ownBlock] using e
    subst this
    have e3 : g' = g := e2
    subst e3
    rw [hq] at hg
    cases hg
theorem unpacks_walk (w : World) (tb : Hid (Tp w)) (sp : Option Addr) (cap : Nat) (l : List UInt8) (hl : Hid (LiesB w sp l)) (hn : l.length ≤ maxLen) (hcap : l.length ≤ cap) :
    Calls Tryd.prog 7 #[.slice sp l.length cap] w fun e w' => e = .returned (.bool true) ∧ Below w.heap.size w w' := by
  have hn : l.length ≤ 9223372036854775807 := by unfold maxLen at hn; omega
  obtain ⟨n, hn'⟩ : ∃ n, l.length = n := ⟨_, rfl⟩
  have ni : (n : Int) ≤ 9223372036854775807 := by omega
  by_cases hbig : 2147483647 < n
  · have q : decide ((2147483647 : Int) < n) = true := by simp; omega
    rw [hn']
    clear hbig hn hn'
    go_enter Tryd.func7, Tryd.ntmps7
    go_wp2
    go_ret
    exact ⟨rfl, Below.refl _ _⟩
  have q : decide ((2147483647 : Int) < n) = false := by simp; omega
  have n2 : (n : Int) ≤ 2147483647 := by omega
  obtain ⟨i, hi, hz0, hz1, hz2⟩ := info_parts infoB
  have hmk : ∀ v, (Instr.makeSlice 34 (.int .i64 ((n : Int) + 1)) (.int .i64 ((n : Int) + 1))).run Tryd.prog v = .ok (.slice (some ⟨v.heap.size, 0, none⟩) (n + 1) (n + 1)) (v.alloc (.cells (madeCells #[.int .u8 0] (n + 1)) 5)) := fun v => by
    have := run_make (P := Tryd.prog) v 34 5 i _ Tryd.underlying34 hi hz0 .i64 .i64 ((n : Int) + 1) ((n : Int) + 1) (by omega) (Int.le_refl _) (by rw [hz2]; omega) (by omega)
    rw [hz1, show ((n : Int) + 1).toNat = n + 1 by omega, Nat.mul_one] at this
    exact this
  have hms : Hid ((madeCells #[Value.int .u8 0] (n + 1)).size = n + 1) := by show _ = _; simp [size_madeCells]
  have hMn : Hid ((madeCells #[Value.int .u8 0] (n + 1))[n]? = some (.int .u8 0)) := by show _ = _; rw [Array.getElem?_eq_getElem (by simp [size_madeCells])]; simp [madeCells, Nat.mod_one]
  obtain ⟨M, hM⟩ : ∃ M, madeCells #[Value.int .u8 0] (n + 1) = M := ⟨_, rfl⟩
  rw [hM] at hmk hms hMn
  have hcap' : Hid (n ≤ cap) := by rw [← hn']; exact hcap
  have hP : Hid (∀ (y : World) (p : Option Addr) (c : Nat), n ≤ c → LiesB y p l → Calls Tryd.prog 20 #[.slice p n c] y fun e w' => ∃ v, e = .returned (.tuple #[v, .int .i64 (unpackR l).2.1, .int .i64 (unpackR l).2.2]) ∧ Hid (Ct y v (.slice none 0 0) (unpackR l).1 [] [] w')) := fun y p c hc h => by
    have := punpack_any y p c l h (by omega) (by omega)
    rw [hn'] at this
    exact this
  have hR : Hid (∀ (y : World), LiesB y sp l → Calls Tryd.prog 21 #[.slice sp n cap] y fun e w' => ∃ v, e = .returned (.tuple #[v, .int .i64 (unpackR l).2.1, .int .i64 (unpackR l).2.2]) ∧ Hid (Ct y v (.slice none 0 0) (unpackR l).1 [] [] w')) := fun y h => by
    have := runpack_any y sp cap l h (by omega)
    rw [hn'] at this
    exact this
  have hSame : Hid (∀ (y : World) (pa : Option Addr) (ca : Nat), LiesB y pa l → LiesB y sp l → Calls Tryd.prog 19 #[.slice pa n ca, .slice sp n cap] y fun e w' => e = .returned (.bool true) ∧ w' = y) := fun y pa ca h1 h2 => by
    have := sameB_any y pa sp ca cap l l h1 h2
    rw [hn', beq_self_eq_true] at this
    exact this
  have hUl : (unpackR l).1.length ≤ 4194304 := by
    rcases hx : unpackR l with ⟨m, e, a⟩
    exact unpack_len l m e a hx
  rw [hn']
  have hnn : Hid (l.length = n) := hn'
  generalize unpackR l = S at hP hR hUl
  obtain ⟨L, E, A⟩ := S
  dsimp only at hP hR hUl
  have hO : Hid (∀ (y3 y4 y5 : World) (va vb vc : Value), OwnR w.heap.size y3 va L → Below w.heap.size w y3 → Ct y3 vb (.slice none 0 0) L [] [] y4 → Ct y4 vc (.slice none 0 0) L [] [] y5 → Calls Tryd.prog 16 #[va, vb, vc] y5 fun e w' => e = .returned (.bool true) ∧ Below w.heap.size w w') := fun y3 y4 y5 va vb vc h1 h0 h2 h3 => by
    have s2 := h2.fm.low.size
    have s3 := h3.fm.low.size
    have lw : Below w.heap.size w y5 := (h0.trans (h2.fm.low.mono h0.size)).trans (h3.fm.low.mono (by have := h0.size; omega))
    refine (own_any y5 w.heap.size lw.size va vb vc L (by omega) ((h1.below h2.fm.low).below h3.fm.low) ((h2.oa.below h3.fm.low).weak h0.size) (h3.oa.weak (by have := h0.size; omega)) (fun g e1 e2 => ?_) (fun g e1 e2 => ?_) (fun g e1 e2 => ?_)).mono ?_
    · have a := (World.ownsRow.lt h1 g e1).2
      have b := (World.ownsRow.lt h2.oa g e2).1
      omega
    · have a := (World.ownsRow.lt h1 g e1).2
      have b := (World.ownsRow.lt h3.oa g e2).1
      omega
    · have a := (World.ownsRow.lt h2.oa g e1).2
      have b := (World.ownsRow.lt h3.oa g e2).1
      omega
    · rintro e w' ⟨rfl, h⟩
      exact ⟨rfl, lw.trans h⟩
  obtain ⟨g, hg⟩ : ∃ g, w.heap.size = g := ⟨_, rfl⟩
  have hg' : Hid (w.heap.size = g) := hg
  have hA : Hid ((w.alloc (.cells M 5)).heap[g]? = some (.cells M 5 (0, 0)) ∧ LiesB (w.alloc (.cells M 5)) sp l ∧ Below w.heap.size w (w.alloc (.cells M 5))) := ⟨by rw [← hg]; exact alloc_last' w _, hl.out.below (below1 w _), below1 w _⟩
  have hmk' := hmk w
  rw [hg] at hmk'
  have ig : ∀ v, (Instr.indexAt 34 (.slice (some ⟨g, 0, none⟩) (n + 1) (n + 1)) (.int .i64 (n : Int))).run Tryd.prog v = .ok (.pointer (some ⟨g, n, none⟩)) v := fun v => by
    have := idxB g 0 (n + 1) (n + 1) n (by omega) v
    rw [Nat.zero_add] at this
    exact this
  clear hM hn hn' hmk hg hbig hUl hi hz0 hz1 hz2
  go_enter Tryd.func7, Tryd.ntmps7
  go_wp2_with (refine at_copyB rfl (.tmp 21) (.tmp 22) rfl g (n + 1) (n + 1) sp n cap rfl rfl M hA.out.1 l hnn.out (by omega) hA.out.2.1 ?_ g (Nat.le_refl _) ?_)
  · rw [hms.out]; omega
  intro w1 H1
  have hml : M.toList.length = n + 1 := by rw [Array.length_toList]; exact hms.out
  have hsl : (splice M.toList 0 (l.map byV)).length = n + 1 := (length_splice M.toList 0 (l.map byV) (by rw [List.length_map, hnn.out, hml]; omega)).trans hml
  have K1 : Hid (w1.heap[g]? = some (.cells (splice M.toList 0 (l.map byV)).toArray 5 (0, 0)) ∧ Below w.heap.size w w1) := ⟨H1.out.1, hA.out.2.2.trans (H1.out.2.mono (by rw [hg'.out]; exact Nat.le_refl _))⟩
  have dn : w1.cell? ⟨g, n, none⟩ = some (.int .u8 0) := by
    rw [cell_heap K1.out.1, List.getElem?_toArray, splice_at _ _ _ (by rw [List.length_map, hnn.out, hml]; omega), if_neg (by rw [List.length_map, hnn.out]; omega), Array.getElem?_toList]
    exact hMn.out
  have fn := frozen_heap K1.out.1 n
  have K2 : Hid (Bx (w1.setCell ⟨g, n, none⟩ (.int .u8 77)) g ((l ++ [77]).map byV).toArray 5 ∧ Below w.heap.size w (w1.setCell ⟨g, n, none⟩ (.int .u8 77))) := by
    refine ⟨?_, K1.out.2.setCell (p := ⟨g, n, none⟩) (by rw [hg'.out]; exact Nat.le_refl _) _⟩
    have h1 := heap_setCell_same w1 g n _ 5 (.int .u8 77) K1.out.1
    unfold Bx
    rw [h1]
    congr 2
    apply Array.toList_inj.1
    rw [Array.toList_setIfInBounds]
    have e : splice M.toList 0 (l.map byV) = l.map byV ++ M.toList.drop n := by unfold splice; simp [hnn.out]
    have hd : (M.toList.drop n).length = 1 := by rw [List.length_drop, hml]; omega
    rw [e, List.set_append_right _ _ (by rw [List.length_map, hnn.out]; exact Nat.le_refl _), List.length_map, hnn.out, Nat.sub_self, List.map_append]
    match M.toList.drop n, hd with
    | [x], _ => rfl
  generalize hw2 : w1.setCell ⟨g, n, none⟩ (.int .u8 77) = w2 at K2
  have L2 : Hid (∀ z, Below w2.heap.size w2 z → LiesB z (some ⟨g, 0, none⟩) l ∧ z.cell? ⟨g, n, none⟩ = some (.int .u8 77)) := fun z hz => by
    have hb : Bx z g ((l ++ [77]).map byV).toArray 5 := (hz.block g (heap_lt K2.out.1)).trans K2.out.1
    refine ⟨fun j b hj => ⟨g, 0, rfl, ?_⟩, ?_⟩
    · rw [Nat.zero_add, cell_heap hb, List.getElem?_toArray, List.getElem?_map, List.getElem?_append_left (List.getElem?_eq_some_iff.1 hj).1, hj]
      rfl
    · rw [cell_heap hb, List.getElem?_toArray, List.getElem?_map, List.getElem?_append_right (by rw [hnn.out]; exact Nat.le_refl _), hnn.out, Nat.sub_self]
      rfl
  clear H1 K1 hA hmk' hml hsl
  go_wp2_with (first
    | (go_at_call 20; refine (hP.out w2 (some ⟨g, 0, none⟩) (n + 1) (Nat.le_succ n) (L2.out w2 (Below.refl _ _)).1).mono ?_; rintro e y2 ⟨v1, rfl, H2⟩; have d2 := (L2.out y2 H2.out.fm.low).2; have K3 : Hid (Below w.heap.size w y2) := K2.out.2.trans (H2.out.fm.low.mono K2.out.2.size); have O3 : Hid (OwnR w.heap.size y2 v1 L) := H2.out.oa.weak K2.out.2.size; have B3 : Hid (Bx y2 g ((l ++ [77]).map byV).toArray 5) := (H2.out.fm.low.block g (heap_lt K2.out.1)).trans K2.out.1)
    | (go_at_call 19; refine (hSame.out y2 (some ⟨g, 0, none⟩) (n + 1) (L2.out y2 H2.out.fm.low).1 (hl.out.below K3.out)).mono ?_; rintro e y3 ⟨rfl, h3⟩; replace h3 := h3.symm; subst h3))
  go_loopw [7] (fun i wz => ∃ (k : Nat) (y : World), y = wz ∧ i = .int .i64 (k : Int) ∧ Hid (k ≤ n + 1) ∧ Hid (∃ cur, y.heap[g]? = some (.cells cur 5 (0, 0)) ∧ cur.size = n + 1) ∧ Hid (OwnR w.heap.size y v1 L ∧ Below w.heap.size w y)) (fun i _ => (n + 1 - intOf i).toNat)
  case atStart => exact ⟨0, _, rfl, rfl, Nat.zero_le _, ⟨_, B3.out, by simp [hnn.out]⟩, ⟨O3.out, K3.out⟩⟩
  case round =>
    obtain ⟨k, y, rfl, rfl, J, C, K⟩ := hrel
    clear B3 O3 K3 d2 H2
    by_cases hlt : k < n + 1
    · obtain ⟨cur, hc1, hc2⟩ := C.out
      have dk : ∃ X, y.cell? ⟨g, k, none⟩ = some X := ⟨_, by rw [cell_heap hc1, Array.getElem?_eq_getElem (by omega)]⟩
      obtain ⟨X, dk⟩ := dk
      have fk := frozen_heap hc1 k
      have C2 : Hid (∃ cur', (y.setCell ⟨g, k, none⟩ (.int .u8 78)).heap[g]? = some (.cells cur' 5 (0, 0)) ∧ cur'.size = n + 1) := ⟨_, heap_setCell_same y g k cur _ _ hc1, by simpa using hc2⟩
      have K4 : Hid (OwnR w.heap.size (y.setCell ⟨g, k, none⟩ (.int .u8 78)) v1 L ∧ Below w.heap.size w (y.setCell ⟨g, k, none⟩ (.int .u8 78))) := ⟨K.out.1.byte hc1 k _, K.out.2.setCell (p := ⟨g, k, none⟩) (by rw [hg'.out]; exact Nat.le_refl _) _⟩
      have ij : ∀ v, (Instr.indexAt 34 (.slice (some ⟨g, 0, none⟩) (n + 1) (n + 1)) (.int .i64 (k : Int))).run Tryd.prog v = .ok (.pointer (some ⟨g, k, none⟩)) v := fun v => by
        have := idxB g 0 (n + 1) (n + 1) k hlt v
        rw [Nat.zero_add] at this
        exact this
      have hki : (k : Int) < (n : Int) + 1 := by omega
      have hlt' : Hid (k < n + 1) := hlt
      clear hlt hc1 hc2
      go_wp2
      go_roundw
      case rel => exact ⟨k + 1, _, rfl, by simp, (by show k + 1 ≤ n + 1; have := hlt'.out; omega), C2, K4⟩
      case measure => have := hlt'.out; simp [intOf]; omega
    · have hke : k = n + 1 := by have := J.out; omega
      subst hke
      clear hlt J C
      go_wp2_with (first
        | (go_at_call 20; refine (hP.out y sp cap hcap'.out (hl.out.below K.out.2)).mono ?_; rintro e y4 ⟨v2, rfl, H4⟩)
        | (go_at_call 21; refine (hR.out y4 (hl.out.below (K.out.2.trans (H4.out.fm.low.mono K.out.2.size)))).mono ?_; rintro e y5 ⟨v3, rfl, H5⟩)
        | (go_at_call 16; refine (hO.out y y4 y5 v1 v2 v3 K.out.1 K.out.2 H4.out H5.out).mono ?_; rintro e y6 ⟨rfl, H6⟩; replace H6 : Hid _ := H6)
        | (go_at_call 9; refine (awake_any y6 (tb.out.below H6.out)).mono ?_; rintro e y7 ⟨rfl, h7⟩; replace h7 : Hid _ := h7))
      go_ret
      exact ⟨by first | rfl | simp, H6.out.trans (h7.out.mono H6.out.size)⟩
end Go.Proofs.YthhobmdhefbafaaDoor
