/- Waves played: the statement's walk. -/
import Derived.Test.YtdfjfacilbahkaaDoorUn
import Derived.Test.YtdfjfacilbahkaaDoorQo
import Derived.Test.YtdfjfacilbahkaaDoorUi
import Derived.Test.YtdfjfacilbahkaaDoorUo
namespace Go.Proofs.YtdfjfacilbahkaaDoor
open Go Go.RowKit
set_option linter.unusedVariables false
set_option maxHeartbeats 2000000
set_option maxRecDepth 20000

section
variable {α : Type} {t : TypeId} {s : Nat} {c : α → List Value}
theorem T3.addA {w z z' : World} {va va' vb vc : Value} {xs ys zs : List α} {o : Obj} {e : α} (h : T3 t s c w va vb vc xs ys zs z) (d1 : ∀ g, va.ownBlock = some g → vb.ownBlock ≠ some g) (d2 : ∀ g, va.ownBlock = some g → vc.ownBlock ≠ some g) (A : App1L t s c w.heap.size va xs e va' (z.alloc o) z') :
    T3 t s c w va' vb vc (xs ++ [e]) ys zs z' ∧ (∀ g, va'.ownBlock = some g → vb.ownBlock ≠ some g) ∧ (∀ g, va'.ownBlock = some g → vc.ownBlock ≠ some g) := by
  have hs : (z.alloc o).heap.size = z.heap.size + 1 := by simp
  refine ⟨⟨A.own, (h.b.alloc o).cu A.cu (fun g j e1 hF => d1 g hF.1 e1), (h.c.alloc o).cu A.cu (fun g j e1 hF => d2 g hF.1 e1), (h.low.alloc h.low.size o).trans A.cu.low⟩, fun g e1 e2 => ?_, fun g e1 e2 => ?_⟩
  · rcases A.new g e1 with k | k
    · exact d1 g k e2
    · have := (h.b.lt g e2).2; omega
  · rcases A.new g e1 with k | k
    · exact d2 g k e2
    · have := (h.c.lt g e2).2; omega
/-- Rows made one behind the other. -/
theorem T3.of {w y1 y2 y3 : World} {va vb vc : Value} {l : List α} (h1 : KL t s c w va l y1) (h2 : KL t s c y1 vb l y2) (h3 : KL t s c y2 vc l y3) : T3 t s c w va vb vc l l l y3 := (T3.made h1 h2 h3).1
end
abbrev zA0 : At := ⟨0, false, false, false, false, false, false, false, 0⟩
theorem builtSp (x : Int) : Tryd.prog.built 37 [(0, .int .i64 x)] = some (spC ⟨x, zA0⟩) := by kernel_rfl
theorem fillS1 (s : Sn) : Instr.fill (fun i => some (i * 10, 10)) ((Array.range (1 * 10)).map ((Value.agg (spC ⟨0, zA0⟩)).cells[· % (Value.agg (spC ⟨0, zA0⟩)).cells.size]!)) [(0, .agg (spC s))] = some (spC s) := by kernel_rfl
theorem at_bsS1 {ops : Array Oper} {rest : List Oper} {o : Oper} {a : Act} {w : World} {Q : Exit → Act → World → Prop} (s : Sn) (x : Operand) (hgd : o.guard = none) (ho : o.op = .buildSlice 38 1 #[(0, x)]) (hx : a.eval x = .agg (spC s))
    (h : wpList Tryd.prog ops Q rest (a.put o.dst (.slice (some ⟨w.heap.size, 0, none⟩) 1 1)) (w.alloc (.cells (spC s) 37))) : wpList Tryd.prog ops Q (o :: rest) a w := by
  obtain ⟨i, hi, hz0, hz1, hz2⟩ := info_parts infoS
  refine wpList_buildSlice hgd 38 37 1 #[(0, x)] ho (spC s) i _ Tryd.underlying38 hi hz0 (by rw [hz1]; decide) (by rw [hz1]; decide) ?_ h
  rw [hz1]
  have e : (#[(0, x)].map fun (i, x) => (i, a.eval x)).toList = [(0, .agg (spC s))] := by simp [hx]
  rw [e]
  exact fillS1 s
theorem spansW_len (l : List (Int × Int)) (a : At) : (spansW l a).1.length ≤ 4096 := by
  unfold spansW
  split
  · simp
  · split
    · simp
    · split
      · rw [spanL_len]; omega
      · simp
theorem spans_walk (w : World) (T : Hid (Tq w)) (sp : Option Addr) (cap : Nat) (l : List (Int × Int)) (c0 : Int) (sa : At) (hl : Hid (L2 w sp l)) (hn : l.length ≤ maxLen) :
    Calls Tryd.prog 6 #[.slice sp l.length cap, .agg (spC ⟨c0, sa⟩)] w fun e w' => e = .returned (.bool true) ∧ Below w.heap.size w w' := by
  have hn : l.length ≤ 9223372036854775807 := by unfold maxLen at hn; omega
  obtain ⟨n, hn'⟩ : ∃ n, l.length = n := ⟨_, rfl⟩
  have ni : (n : Int) ≤ 9223372036854775807 := by omega
  obtain ⟨S, hS⟩ : ∃ x, spC ⟨c0, sa⟩ = x := ⟨_, rfl⟩
  have hS1 : Hid (S.size = 10) := by rw [← hS]; exact rfl
  have hF : Hid (Fm w [(w.heap.size, S, 37)] (w.alloc (.cells S 37))) := Fm.one w _ _
  by_cases hbig : 2147483647 < n
  · have q : decide ((2147483647 : Int) < n) = true := by simp; omega
    rw [hn', hS]
    clear hbig hn hn' hS
    go_enter Tryd.func6, Tryd.ntmps6
    go_wp2
    go_ret
    exact ⟨rfl, hF.out.low⟩
  have q : decide ((2147483647 : Int) < n) = false := by simp; omega
  have hP : Hid (∀ (y : World) (p : Option Addr) (c : Nat), L2 y p l → Calls Tryd.prog 17 #[.slice p n c, .agg S] y fun e w' => ∃ v, e = .returned (.tuple #[v, .int .i64 (spansW l sa).2]) ∧ Hid (KL 37 10 cS y v (spansW l sa).1 w')) := fun y p c h => by
    have := pspans_any y p c l c0 sa h (by omega)
    rw [hn', hS] at this
    exact this
  have hR : Hid (∀ (y : World), L2 y sp l → Calls Tryd.prog 18 #[.slice sp n cap, .agg S] y fun e w' => ∃ v, e = .returned (.tuple #[v, .int .i64 (spansW l sa).2]) ∧ Hid (KL 37 10 cS y v (spansW l sa).1 w')) := fun y h => by
    have := rspans_any y sp cap l c0 sa h (by omega)
    rw [hn', hS] at this
    exact this
  have hbl : (spansW l sa).1.length ≤ 4096 := spansW_len l sa
  obtain ⟨y0, hy0⟩ : ∃ x, w.alloc (.cells S 37) = x := ⟨_, rfl⟩
  have F0 : Hid (Fm w [(w.heap.size, S, 37)] y0) := by have := hF; rw [hy0] at this; exact this
  have hl0 : Hid (L2 y0 sp l) := hl.out.below F0.out.low
  obtain ⟨g, hg⟩ : ∃ g, y0.heap.size = g := ⟨_, rfl⟩
  have hLent : Hid (Calls Tryd.prog 13 #[.slice sp n cap] (w.alloc (.cells S 37)) fun e w' => e = .returned (.slice (some ⟨g, 0, none⟩) n (n + 1)) ∧ Hid (LntW y0 g l w')) := by
    have := lent_any y0 sp cap l hl0 (by omega)
    rw [hn', hg] at this
    rw [hy0]
    exact this
  have hBack : Hid (∀ y : World, LntW y0 g l y → L2 y sp l → Calls Tryd.prog 15 #[.slice (some ⟨g, 0, none⟩) n (n + 1), .slice sp n cap] y fun e w' => e = .returned (.bool true) ∧ Hid (CuL y0.heap.size (fun q _ => q = g) y w')) := fun y h1 h2 => by
    have := back_any y0 y g sp cap l (by omega) h1 h2 (by omega)
    rw [hn'] at this
    exact this
  have sB : Hid (∀ y, Below y0.heap.size y0 y → Bx y w.heap.size S 37) := fun y hy => (hy.block _ (heap_lt (F0.out.bx 0 _ _ _ rfl))).trans (F0.out.bx 0 _ _ _ rfl)
  rw [hn', hS]
  obtain ⟨⟨BL, E⟩, hBL⟩ : ∃ x, spansW l sa = x := ⟨_, rfl⟩
  rw [hBL] at hP hR hbl
  dsimp only at hP hR hbl
  obtain ⟨m, hm⟩ : ∃ m, BL.length = m := ⟨_, rfl⟩
  have hm' : Hid (BL.length = m) := hm
  have mi : (m : Int) ≤ 4096 := by omega
  have hmb : Hid (m ≤ 4096) := by show m ≤ 4096; omega
  have hSame : Hid (∀ (y : World) (pa pb : Option Addr) (ca cb : Nat), LiesL 10 cS y pa BL → LiesL 10 cS y pb BL → Calls Tryd.prog 19 #[.slice pa m ca, .slice pb m cb] y fun e w' => e = .returned (.bool true) ∧ Below y.heap.size y w') := fun y pa pb ca cb h1 h2 => by
    have := rsame_any y pa pb ca cb BL BL h1 h2 (by omega) (by omega)
    rw [hm, (sameB_iff BL BL).2 rfl] at this
    exact this
  obtain ⟨X, hX⟩ : ∃ X, spC ⟨-1, zA0⟩ = X := ⟨_, rfl⟩
  have hX1 : Hid (X.all (·.oneCell') = true ∧ (Tryd.prog.info? 37).map (·.size) = some X.size ∧ (spC ⟨-1, zA0⟩) = X) := by rw [← hX]; exact ⟨spC_one _, rtS.i, rfl⟩
  have bX : Hid (Tryd.prog.built 37 [(0, .int .i64 (-1))] = some X) := by rw [← hX]; exact builtSp (-1)
  obtain ⟨Y, hY⟩ : ∃ Y : Sn, (⟨-2, zA0⟩ : Sn) = Y := ⟨_, rfl⟩
  have bY : Hid (Tryd.prog.built 37 [(0, .int .i64 (-2))] = some (spC Y)) := by rw [← hY]; exact builtSp (-2)
  have qE : (E != E) = false := by simp
  have hg' : Hid (y0.heap.size = g) := hg
  clear hbig hn hn' hBL hm hbl hX hY hS hg hy0 hF
  go_enter Tryd.func6, Tryd.ntmps6
  go_wp2_with (first
    | (go_at_call 18; refine (hR.out y4 (hl0.out.below L4.out)).mono ?_; rintro e y5 ⟨vc, rfl, H5⟩; refine stopAt ?_)
    | (go_at_call 17; refine (hP.out y3 sp cap (hl0.out.below L3.out)).mono ?_; rintro e y4 ⟨vb, rfl, H4⟩; have L4 : Hid (Below y0.heap.size y0 y4) := L3.out.trans (H4.out.low.mono L3.out.size))
    | (go_at_call 15; refine (hBack.out y2 N2.out (hl0.out.below N2.out.low)).mono ?_; rintro e y3 ⟨rfl, C3⟩; have L3 : Hid (Below y0.heap.size y0 y3) := N2.out.low.trans C3.out.low)
    | (go_at_call 17; refine (hP.out y1 (some ⟨g, 0, none⟩) (n + 1) (H1.out.lies kWave.len)).mono ?_; rintro e y2 ⟨va, rfl, H2⟩; have N2 : Hid (LntW y0 g l y2) := H1.out.below H2.out.low)
    | (go_at_call 13; refine hLent.out.mono ?_; rintro e y1 ⟨rfl, H1⟩)
    | ((with_reducible refine at_load rtS w.heap.size S ?_ ?_ (.tmp 3) ?_ ?_ ?_ ?_); (first | exact sB.out _ L4.out | exact sB.out _ L3.out | exact sB.out _ H1.out.low); exact hS1.out; kernel_rfl; rfl; rfl))
  have Ka : KL 37 10 cS y0 va BL y3 := by
    have h1 := H2.out.base H1.out.low
    refine ⟨h1.own.cu C3.out fun q j e hF => ?_, L3.out⟩
    have a := (H2.out.own.lt q e).1
    have b := heap_lt H1.out.bx
    omega
  obtain ⟨T0, dab, dac, dbc⟩ := T3.made Ka H4.out H5.out
  replace T0 : Hid _ := T0
  obtain ⟨pa, ca, rfl, la, aa, oa, _⟩ := T0.out.a.open kSpan.len
  obtain ⟨pb, cb, rfl, lb, ab, ob, _⟩ := T0.out.b.open kSpan.len
  obtain ⟨pc, cc, rfl, lc, ac, oc, _⟩ := T0.out.c.open kSpan.len
  rw [hm'.out] at T0 dab dac dbc oa ob oc ⊢
  have Pa : Hid (∀ j, j < m → ∃ g, pa = some ⟨g, 0, none⟩) := fun j hj => ptr_of (k := 0) (d := 0) la (fun a e => (aa a e).1) j (by rw [hm'.out]; exact hj)
  have lies3 : Hid (∀ (xs : List Sn) (va : Value) (z : World), T3 37 10 cS y0 va (.slice pb m cb) (.slice pc m cc) xs BL BL z → LiesL 10 cS z pb BL ∧ LiesL 10 cS z pc BL) := fun xs va z h => by
    obtain ⟨p1, k1, e1, l1, _⟩ := h.b.open kSpan.len
    obtain ⟨p2, k2, e2, l2, _⟩ := h.c.open kSpan.len
    rw [hm'.out] at e1 e2
    cases e1
    cases e2
    exact ⟨l1, l2⟩
  have la' : Hid (LiesL 10 cS y5 pa BL) := la
  replace dab : Hid _ := dab
  replace dac : Hid _ := dac
  replace dbc : Hid _ := dbc
  clear la lb lc aa ab ac oa ob oc H1 H2 H4 H5 Ka C3 L3 L4 N2 hP hR hl hLent hBack sB hl0
  refine Stop.go ?_
  go_wp2_with (first
    | (go_at_call_of 19 (Value.slice pb m cb); refine (hSame.out z1 pb pc cb cc (lies3.out _ _ _ (T0.out.below q1.out)).1 (lies3.out _ _ _ (T0.out.below q1.out)).2).mono ?_; rintro e z2 ⟨rfl, q2⟩; replace q2 : Hid (Below y5.heap.size y5 z2) := q1.out.trans (q2.mono q1.out.size))
    | (go_at_call_of 19 (Value.slice pa m ca); refine (hSame.out y5 pa pc ca cc la'.out (lies3.out _ _ _ T0.out).2).mono ?_; rintro e z1 ⟨rfl, q1⟩; replace q1 : Hid _ := q1))
  have T1 : Hid (T3 37 10 cS y0 (.slice pa m ca) (.slice pb m cb) (.slice pc m cc) BL BL BL z2) := T0.out.below q2.out
  clear T0 q1 q2 la'
  go_loopw [12] (fun i wz => ∃ (k : Nat) (z : World) (xs : List Sn), z = wz ∧ i = .int .i64 (k : Int) ∧ Hid (k ≤ m ∧ xs.length = m) ∧ Hid (T3 37 10 cS y0 (.slice pa m ca) (.slice pb m cb) (.slice pc m cc) xs BL BL z)) (fun i _ => (m - intOf i).toNat)
  case atStart => exact ⟨0, _, BL, rfl, rfl, ⟨Nat.zero_le _, hm'.out⟩, T1⟩
  case round =>
    obtain ⟨k, z, xs, rfl, rfl, J, K⟩ := hrel
    by_cases hlt : k < m
    · obtain ⟨gA, rfl⟩ := Pa.out k hlt
      obtain ⟨K2, hth⟩ := K.out.set kSpan.len (dab.out gA rfl) (dac.out gA rfl) k (by rw [J.out.2]; exact hlt) ⟨-1, zA0⟩
      have ij : ∀ u, (Instr.indexAt 38 (.slice (some ⟨gA, 0, none⟩) m ca) (.int .i64 (k : Int))).run Tryd.prog u = .ok (.pointer (some ⟨gA, k * 10, none⟩)) u := fun u => by
        have := idxP (g := gA) (off := 0) (len := m) (cap := ca) Tryd.underlying38 (s := 10) (by kernel_rfl) .i64 k u hlt
        rw [Nat.zero_add] at this
        exact this
      have hK2 : Hid (T3 37 10 cS y0 (.slice (some ⟨gA, 0, none⟩) m ca) (.slice pb m cb) (.slice pc m cc) (xs.set k ⟨-1, zA0⟩) BL BL (z.setCells gA (k * 10) X.toList)) := by rw [← hX1.out.2.2]; exact K2
      have hth' : Hid (z.there gA (k * 10) X.size) := by rw [← hX1.out.2.2]; exact hth
      have hki : (k : Int) < m := by omega
      have hlt' : Hid (k < m) := hlt
      clear hlt K2 hth
      go_wp2_with (first
        | ((with_reducible refine at_bu #[(0, .const (.int .i64 (-1)))] [(0, .int .i64 (-1))] X ?_ ?_ ?_ bX.out ?_); kernel_rfl; rfl; kernel_rfl)
        | ((with_reducible refine wpList_store_mid ?_ 37 (.tmp 71) (.tmp 70) ?_ gA (k * 10) X ?_ ?_ hth'.out hX1.out.2.1 hX1.out.1 ?_); rfl; rfl; rfl; rfl))
      go_roundw
      case rel => exact ⟨k + 1, _, _, rfl, by simp, ⟨hlt'.out, by rw [List.length_set]; exact J.out.2⟩, hK2⟩
      case measure => have := hlt'.out; simp [intOf]; omega
    · have hke : k = m := by have := J.out.1; omega
      have hxl : Hid (xs.length = m) := J.out.2
      have hji : ¬ (k : Int) < m := by omega
      have hys : Hid (y0.heap.size ≤ z.heap.size) := K.out.low.size
      clear hlt J T1 Pa hke
      go_wp2
      go_loopw [13, 14] (fun x i wz => ∃ (j : Nat) (vx : Value) (u : World), u = wz ∧ vx = x ∧ i = .int .i64 (j : Int) ∧ Hid (j ≤ 20) ∧ Hid (T3 37 10 cS y0 vx (.slice pb m cb) (.slice pc m cc) (groL xs Y j) BL BL u ∧ (∀ g, vx.ownBlock = some g → (Value.slice pb m cb).ownBlock ≠ some g) ∧ (∀ g, vx.ownBlock = some g → (Value.slice pc m cc).ownBlock ≠ some g))) (fun _ i _ => (20 - intOf i).toNat)
      case atStart => exact ⟨0, _, _, rfl, rfl, rfl, (show 0 ≤ 20 by omega), ⟨by rw [groL_zero]; exact K.out, dab.out, dac.out⟩⟩
      case round =>
        obtain ⟨j, vx, u, rfl, rfl, rfl, J2, D⟩ := hrel
        by_cases hlt : j < 20
        · have hlt' : Hid (j < 20) := hlt
          have hji2 : (j : Int) < 20 := by omega
          have hl1 : Hid ((groL xs Y j).length ≤ 2147483700) := by rw [groL_len, hxl.out]; show _ ≤ _; have := hmb.out; omega
          have hg1 : Hid (groL xs Y (j + 1) = groL xs Y j ++ [Y]) := groL_succ _ _ _
          obtain ⟨GX, hGX⟩ : ∃ x, groL xs Y j = x := ⟨_, rfl⟩
          rw [hGX] at D hl1 hg1
          clear hlt hGX
          go_wp2_with (first
            | ((with_reducible refine at_bu #[(0, .const (.int .i64 (-2)))] [(0, .int .i64 (-2))] (spC Y) ?_ ?_ ?_ bY.out ?_); kernel_rfl; rfl; kernel_rfl)
            | ((with_reducible refine at_bsS1 Y (.tmp 78) ?_ ?_ ?_ ?_); rfl; rfl; rfl)
            | (at_builtin; refine at_appL kSpan rfl (.tmp 77) (.tmp 79) rfl y0.heap.size vx GX rfl (D.out.1.a.alloc _) u.heap.size Y rfl (bx1 _ _ _) ?_ ?_ ?_; (have := hl1.out; omega); (have := D.out.1.low.size; simp; omega); intro vx' u1 A; have D1 : Hid _ := D.out.1.addA D.out.2.1 D.out.2.2 A.out; clear A))
          go_roundw
          case rel => exact ⟨j + 1, _, _, rfl, rfl, by simp, hlt'.out, by rw [hg1.out]; exact D1⟩
          case measure => have := hlt'.out; simp [intOf]; omega
        · have hje : j = 20 := by have := J2.out; omega
          subst hje
          rw [show ((20 : Nat) : Int) = 20 from rfl]
          obtain ⟨px, cx, rfl, lx, _⟩ := D.out.1.a.open kSpan.len
          rw [groL_len, hxl.out]
          have ls := lies3.out _ _ _ D.out.1
          have lowU : Hid (Below w.heap.size w u) := F0.out.low.trans (D.out.1.low.mono F0.out.low.size)
          replace ls : Hid _ := ls
          clear lx hlt D J2
          go_wp2_with (first
            | (go_at_call 19; refine (hSame.out u pb pc cb cc ls.out.1 ls.out.2).mono ?_; rintro e z6 ⟨rfl, h6⟩; have K6 : Hid (Below w.heap.size w z6) := lowU.out.trans (h6.mono lowU.out.size); clear h6)
            | (go_at_call 9; refine (awake_any z6 (T.out.below K6.out)).mono ?_; rintro e z7 ⟨rfl, h7⟩; replace h7 : Hid _ := h7))
          go_ret
          exact ⟨by first | rfl | simp, K6.out.trans (h7.out.mono K6.out.size)⟩
end Go.Proofs.YtdfjfacilbahkaaDoor
