/- Two lists of waves that came out: each its owner's, written full and grown. -/
import Derived.Test.YtdfjfacilbahkaaDoorUm
import Derived.Test.YtdfjfacilbahkaaDoorUk
import Derived.Deep.MidRow
namespace Go.Proofs.YtdfjfacilbahkaaDoor
open Go Go.RowKit
set_option linter.unusedVariables false
set_option maxHeartbeats 2000000
set_option maxRecDepth 20000

/-- Three rows, each of its own. -/
structure T3 {α : Type} (t : TypeId) (s : Nat) (c : α → List Value) (w : World) (va vb vc : Value) (xs ys zs : List α) (z : World) : Prop where
  a : OwnL t s c w.heap.size z va xs
  b : OwnL t s c w.heap.size z vb ys
  c : OwnL t s c w.heap.size z vc zs
  low : Below w.heap.size w z
section
variable {α : Type} {t : TypeId} {s : Nat} {c : α → List Value}
theorem T3.below {w y z : World} {va vb vc : Value} {xs ys zs : List α} (h : T3 t s c w va vb vc xs ys zs y) (hb : Below y.heap.size y z) : T3 t s c w va vb vc xs ys zs z := ⟨h.a.below hb, h.b.below hb, h.c.below hb, h.low.trans (hb.mono h.low.size)⟩
theorem T3.set (hc : ∀ x, (c x).length = s) {w z : World} {g n cap : Nat} {vb vc : Value} {xs ys zs : List α} (h : T3 t s c w (.slice (some ⟨g, 0, none⟩) n cap) vb vc xs ys zs z) (d1 : vb.ownBlock ≠ some g) (d2 : vc.ownBlock ≠ some g) (k : Nat) (hk : k < xs.length) (e : α) : T3 t s c w (.slice (some ⟨g, 0, none⟩) n cap) vb vc (xs.set k e) ys zs (z.setCells g (k * s) (c e)) ∧ z.there g (k * s) s := by
  obtain ⟨h1, h2, h3⟩ := h.a.set hc k hk e
  refine ⟨⟨h1, h.b.keepB fun q e1 => setCellsL_other g q (fun e2 => d1 (by rw [← e2]; exact e1)) _ _ _, h.c.keepB fun q e1 => setCellsL_other g q (fun e2 => d2 (by rw [← e2]; exact e1)) _ _ _, h.low.trans (setCellsL_below _ g h3 _ _ _)⟩, h2⟩
theorem T3.made {w y1 y2 y3 : World} {va vb vc : Value} {l : List α} (h1 : KL t s c w va l y1) (h2 : KL t s c y1 vb l y2) (h3 : KL t s c y2 vc l y3) :
    T3 t s c w va vb vc l l l y3 ∧ (∀ g, va.ownBlock = some g → vb.ownBlock ≠ some g) ∧ (∀ g, va.ownBlock = some g → vc.ownBlock ≠ some g) ∧ (∀ g, vb.ownBlock = some g → vc.ownBlock ≠ some g) := by
  have s1 := h1.low.size
  have s2 := h2.low.size
  refine ⟨⟨(h1.own.below h2.low).below h3.low, (h2.own.below h3.low).weak s1, h3.own.weak (by omega), (h1.low.trans (h2.low.mono s1)).trans (h3.low.mono (by omega))⟩, fun g e1 e2 => ?_, fun g e1 e2 => ?_, fun g e1 e2 => ?_⟩
  · have a := (h1.own.lt g e1).2
    have b := (h2.own.lt g e2).1
    omega
  · have a := (h1.own.lt g e1).2
    have b := (h3.own.lt g e2).1
    omega
  · have a := (h2.own.lt g e1).2
    have b := (h3.own.lt g e2).1
    omega
def groL (xs : List α) (e : α) (k : Nat) : List α := xs ++ List.replicate k e
theorem groL_succ (xs : List α) (e : α) (k : Nat) : groL xs e (k + 1) = groL xs e k ++ [e] := by unfold groL; rw [List.replicate_succ', List.append_assoc]
theorem groL_zero (xs : List α) (e : α) : groL xs e 0 = xs := by simp [groL]
theorem groL_len (xs : List α) (e : α) (k : Nat) : (groL xs e k).length = xs.length + k := by simp [groL]
theorem groL_at (xs : List α) (e : α) (k j : Nat) (h1 : xs.length ≤ j) (h2 : j < xs.length + k) : (groL xs e k)[j]? = some e := by unfold groL; rw [List.getElem?_append_right h1, List.getElem?_replicate, if_pos (by omega)]
theorem ptr_of {p : Option Addr} {k d : Nat} {l : List α} {x : World} (hL : LiesL s c x p l) (hA : ∀ a, p = some a → a.off = 0) (j : Nat) (hj : j < l.length) : ∃ g, p = some ⟨g, 0, none⟩ := by
  obtain ⟨g, o, e, _⟩ := hL j _ (List.getElem?_eq_getElem hj)
  have h1 : o = 0 := hA _ e
  subst h1
  exact ⟨g, e⟩
end
theorem waves_any (w y3 : World) (va vb vc : Value) (BL : List (Int × Int)) (T0 : Hid (T3 49 2 c2 w va vb vc BL BL BL y3)) (dab : ∀ g, va.ownBlock = some g → vb.ownBlock ≠ some g) (dac : ∀ g, va.ownBlock = some g → vc.ownBlock ≠ some g) (dbc : ∀ g, vb.ownBlock = some g → vc.ownBlock ≠ some g) (hbl : BL.length ≤ 2147483648) :
    Calls Tryd.prog 12 #[va, vb, vc] y3 fun e w' => e = .returned (.bool true) ∧ Below w.heap.size w w' := by
  obtain ⟨m, hm⟩ : ∃ m, BL.length = m := ⟨_, rfl⟩
  have hm' : Hid (BL.length = m) := hm
  have mi : (m : Int) ≤ 2147483648 := by omega
  have hSame : Hid (∀ (y : World) (pa pb : Option Addr) (ca cb : Nat), L2 y pa BL → L2 y pb BL → Calls Tryd.prog 22 #[.slice pa m ca, .slice pb m cb] y fun e w' => e = .returned (.bool true) ∧ Below y.heap.size y w') := fun y pa pb ca cb h1 h2 => by
    have := sameW_any y pa pb ca cb BL BL h1 h2 (by omega) (by omega)
    rw [hm, decide_eq_true rfl] at this
    exact this
  have b1 : Hid (∀ x, Tryd.prog.built 49 [(0, .int .i64 x)] = some (c2 (x, 0)).toArray) := builtWa1
  obtain ⟨X, hX⟩ : ∃ X, (c2 (-1, 0)).toArray = X := ⟨_, rfl⟩
  have hX1 : Hid (X.all (·.oneCell') = true ∧ (Tryd.prog.info? 49).map (·.size) = some X.size ∧ (c2 (-1, 0)).toArray = X) := by rw [← hX]; exact ⟨by simp [c2, Value.oneCell'], rtWa.i, rfl⟩
  have bX : Hid (Tryd.prog.built 49 [(0, .int .i64 (-1))] = some X) := by rw [← hX]; exact b1.out (-1)
  clear hX hm hbl
  obtain ⟨pa, ca, rfl, la, aa, oa, _⟩ := T0.out.a.open kWave.len
  obtain ⟨pb, cb, rfl, lb, ab, ob, _⟩ := T0.out.b.open kWave.len
  obtain ⟨pc, cc, rfl, lc, ac, oc, _⟩ := T0.out.c.open kWave.len
  rw [hm'.out] at T0 dab dac dbc oa ob oc ⊢
  have Pa : Hid (∀ j, j < m → ∃ g, pa = some ⟨g, 0, none⟩) := fun j hj => ptr_of (k := 0) (d := 0) la (fun a e => (aa a e).1) j (by rw [hm'.out]; exact hj)
  have Ab : Hid (∀ a, pb = some a → a.off = 0 ∧ a.spot = none) := fun a e => ⟨(ab a e).1, (ab a e).2.1⟩
  have Ac : Hid (∀ a, pc = some a → a.off = 0 ∧ a.spot = none) := fun a e => ⟨(ac a e).1, (ac a e).2.1⟩
  have la' : Hid (L2 y3 pa BL) := la
  have lb' : Hid (L2 y3 pb BL) := lb
  have lc' : Hid (L2 y3 pc BL) := lc
  replace dab : Hid _ := dab
  replace dac : Hid _ := dac
  replace dbc : Hid _ := dbc
  replace oa : Hid _ := oa
  replace ob : Hid _ := ob
  replace oc : Hid _ := oc
  clear la lb lc aa ab ac
  go_enter Tryd.func12, Tryd.ntmps12
  go_wp2_with (first
    | (go_at_call_of 22 (Value.slice pb m cb); refine (hSame.out z1 pb pc cb cc (lb'.out.below q1.out) (lc'.out.below q1.out)).mono ?_; rintro e z2 ⟨rfl, q2⟩; replace q2 : Hid (Below y3.heap.size y3 z2) := q1.out.trans (q2.mono q1.out.size))
    | (go_at_call_of 22 (Value.slice pa m ca); refine (hSame.out y3 pa pc ca cc la'.out lc'.out).mono ?_; rintro e z1 ⟨rfl, q1⟩; replace q1 : Hid _ := q1))
  have T1 : Hid (T3 49 2 c2 w (.slice pa m ca) (.slice pb m cb) (.slice pc m cc) BL BL BL z2) := T0.out.below q2.out
  clear T0 q1 q2 la' lb' lc'
  go_loopw [7] (fun i wz => ∃ (k : Nat) (z : World) (xs : List (Int × Int)), z = wz ∧ i = .int .i64 (k : Int) ∧ Hid (k ≤ m ∧ xs.length = m) ∧ Hid (T3 49 2 c2 w (.slice pa m ca) (.slice pb m cb) (.slice pc m cc) xs BL BL z)) (fun i _ => (m - intOf i).toNat)
  case atStart => exact ⟨0, _, BL, rfl, rfl, ⟨Nat.zero_le _, hm'.out⟩, T1⟩
  case round =>
    obtain ⟨k, z, xs, rfl, rfl, J, K⟩ := hrel
    by_cases hlt : k < m
    · obtain ⟨g, rfl⟩ := Pa.out k hlt
      obtain ⟨K2, hth⟩ := K.out.set kWave.len (dab.out g rfl) (dac.out g rfl) k (by rw [J.out.2]; exact hlt) (-1, 0)
      have ij : ∀ u, (Instr.indexAt 24 (.slice (some ⟨g, 0, none⟩) m ca) (.int .i64 (k : Int))).run Tryd.prog u = .ok (.pointer (some ⟨g, k * 2, none⟩)) u := fun u => by
        have := idxP (g := g) (off := 0) (len := m) (cap := ca) Tryd.underlying24 (s := 2) (by kernel_rfl) .i64 k u hlt
        rw [Nat.zero_add] at this
        exact this
      have hK2 : Hid (T3 49 2 c2 w (.slice (some ⟨g, 0, none⟩) m ca) (.slice pb m cb) (.slice pc m cc) (xs.set k (-1, 0)) BL BL (z.setCells g (k * 2) X.toList)) := by rw [← hX1.out.2.2]; exact K2
      have hth' : Hid (z.there g (k * 2) X.size) := by rw [← hX1.out.2.2]; exact hth
      have hki : (k : Int) < m := by omega
      have hlt' : Hid (k < m) := hlt
      clear hlt K2 hth
      go_wp2_with (first
        | ((with_reducible refine at_bu #[(0, .const (.int .i64 (-1)))] [(0, .int .i64 (-1))] X ?_ ?_ ?_ bX.out ?_); kernel_rfl; rfl; kernel_rfl)
        | ((with_reducible refine wpList_store_mid ?_ 49 (.tmp 31) (.tmp 30) ?_ g (k * 2) X ?_ ?_ hth'.out hX1.out.2.1 hX1.out.1 ?_); rfl; rfl; rfl; rfl))
      go_roundw
      case rel => exact ⟨k + 1, _, _, rfl, by simp, ⟨hlt'.out, by rw [List.length_set]; exact J.out.2⟩, hK2⟩
      case measure => have := hlt'.out; simp [intOf]; omega
    · have hke : k = m := by have := J.out.1; omega
      subst hke
      obtain ⟨m, hmk⟩ : ∃ m, k = m := ⟨_, rfl⟩
      subst hmk
      have hxl : Hid (xs.length = k) := J.out.2
      have D0 : Hid (Du 49 2 c2 w.heap.size z (.slice pa k ca) (.slice pb k cb) xs BL (groL xs (-2, 0) 0) (groL BL (-3, 0) 0) (.slice pa k ca) (.slice pb k cb) z) := by rw [groL_zero, groL_zero]; exact Du.start K.out.a K.out.b dab.out
      have hzs : Hid (w.heap.size ≤ z.heap.size) := K.out.low.size
      clear hlt J T1 Pa
      go_wp2
      go_loopw [8, 9, 10] (fun x y i wz => ∃ (j : Nat) (vx vy : Value) (u : World), u = wz ∧ vx = x ∧ vy = y ∧ i = .int .i64 (j : Int) ∧ Hid (j ≤ 20) ∧ Hid (Du 49 2 c2 w.heap.size z (.slice pa k ca) (.slice pb k cb) xs BL (groL xs (-2, 0) j) (groL BL (-3, 0) j) vx vy u)) (fun _ _ i _ => (20 - intOf i).toNat)
      case atStart => exact ⟨0, _, _, _, rfl, rfl, rfl, rfl, (show 0 ≤ 20 by omega), D0⟩
      case round =>
        obtain ⟨j, vx, vy, u, rfl, rfl, rfl, rfl, J2, D⟩ := hrel
        by_cases hlt : j < 20
        · have hlt' : Hid (j < 20) := hlt
          have hji : (j : Int) < 20 := by omega
          have hl1 : Hid ((groL xs (-2, 0) j).length ≤ 2147483700) := by rw [groL_len, hxl.out]; show _ ≤ _; omega
          have hl2 : Hid ((groL BL (-3, 0) j).length ≤ 2147483700) := by rw [groL_len, hm'.out]; show _ ≤ _; omega
          have hg1 : Hid (groL xs (-2, 0) (j + 1) = groL xs (-2, 0) j ++ [(-2, 0)]) := groL_succ _ _ _
          have hg2 : Hid (groL BL (-3, 0) (j + 1) = groL BL (-3, 0) j ++ [(-3, 0)]) := groL_succ _ _ _
          obtain ⟨GX, hGX⟩ : ∃ x, groL xs (-2, 0) j = x := ⟨_, rfl⟩
          obtain ⟨GY, hGY⟩ : ∃ x, groL BL (-3, 0) j = x := ⟨_, rfl⟩
          rw [hGX] at D hl1 hg1
          rw [hGY] at D hl2 hg2
          clear hlt hGX hGY
          go_wp2_with (first
        | ((with_reducible refine at_bu #[(0, .const (.int .i64 (-2)))] [(0, .int .i64 (-2))] (c2 (-2, 0)).toArray ?_ ?_ ?_ (b1.out (-2)) ?_); kernel_rfl; rfl; kernel_rfl)
        | ((with_reducible refine at_bu #[(0, .const (.int .i64 (-3)))] [(0, .int .i64 (-3))] (c2 (-3, 0)).toArray ?_ ?_ ?_ (b1.out (-3)) ?_); kernel_rfl; rfl; kernel_rfl)
        | ((with_reducible refine at_bsWa (-2, 0) (.tmp 39) ?_ ?_ ?_ ?_); rfl; rfl; rfl)
        | ((with_reducible refine at_bsWa (-3, 0) (.tmp 43) ?_ ?_ ?_ ?_); rfl; rfl; rfl)
        | (at_builtin; refine at_appL kWave rfl (.tmp 42) (.tmp 44) rfl w.heap.size vy GY rfl (D1.out.oy.alloc _) u1.heap.size (-3, 0) rfl (bx1 _ _ _) ?_ ?_ ?_; (have := hl2.out; omega); (have := D1.out.cu.low.size; have := hzs.out; simp; omega); intro vy' u2 A; have D2 : Hid (Du 49 2 c2 w.heap.size z (.slice pa k ca) (.slice pb k cb) xs BL (GX ++ [(-2, 0)]) (GY ++ [(-3, 0)]) vx' vy' u2) := (D1.out.swap.addX hzs.out A.out).swap; clear A)
        | (at_builtin; refine at_appL kWave rfl (.tmp 38) (.tmp 40) rfl w.heap.size vx GX rfl (D.out.ox.alloc _) u.heap.size (-2, 0) rfl (bx1 _ _ _) ?_ ?_ ?_; (have := hl1.out; omega); (have := D.out.cu.low.size; have := hzs.out; simp; omega); intro vx' u1 A; have D1 : Hid (Du 49 2 c2 w.heap.size z (.slice pa k ca) (.slice pb k cb) xs BL (GX ++ [(-2, 0)]) GY vx' vy u1) := D.out.addX hzs.out A.out; clear A))
          go_roundw
          case rel => exact ⟨j + 1, _, _, _, rfl, rfl, rfl, by simp, hlt'.out, by rw [hg1.out, hg2.out]; exact D2⟩
          case measure => have := hlt'.out; simp [intOf]; omega
        · have hje : j = 20 := by have := J2.out; omega
          subst hje
          rw [show ((20 : Nat) : Int) = 20 from rfl]
          obtain ⟨px, cx, rfl, lx, _⟩ := D.out.ox.open kWave.len
          obtain ⟨py, cy, rfl, ly, _⟩ := D.out.oy.open kWave.len
          have LX : Hid (L2 u px (groL xs (-2, 0) 20)) := lx
          have LY : Hid (L2 u py (groL BL (-3, 0) 20)) := ly
          have LB : Hid (L2 u pb BL) := by
            obtain ⟨pb', cb', e, lb, ab, ob', _⟩ := K.out.b.open kWave.len
            rw [hm'.out] at e
            cases e
            refine LiesL.cu kWave.len lb D.out.cu (fun a e => (ab a e).1) fun a j e hj hF => ?_
            have ha := ab a e
            have hbk : pb = some ⟨a.block, 0, none⟩ := by rw [e]; obtain ⟨b1, o1, s1⟩ := a; simp at ha; obtain ⟨rfl, rfl, _⟩ := ha; rfl
            rcases hF with h | h | h
            · exact dab.out _ h.1 ((ob.out _).2 hbk)
            · omega
            · have := ha.2.2.2; omega
          have LC : Hid (L2 u pc BL) := by
            obtain ⟨pc', cc', e, lc, ac, oc', _⟩ := K.out.c.open kWave.len
            rw [hm'.out] at e
            cases e
            refine LiesL.cu kWave.len lc D.out.cu (fun a e => (ac a e).1) fun a j e hj hF => ?_
            have ha := ac a e
            have hbk : pc = some ⟨a.block, 0, none⟩ := by rw [e]; obtain ⟨b1, o1, s1⟩ := a; simp at ha; obtain ⟨rfl, rfl, _⟩ := ha; rfl
            rcases hF with h | h | h
            · exact dac.out _ h.1 ((oc.out _).2 hbk)
            · exact dbc.out _ h.1 ((oc.out _).2 hbk)
            · have := ha.2.2.2; omega
          have lowU : Hid (Below w.heap.size w u) := K.out.low.trans D.out.cu.low
          rw [groL_len, groL_len, hxl.out, hm'.out]
          clear lx ly hlt D J2
          go_wp2
          go_loopw [11] (fun i wz => ∃ (j : Nat), wz = u ∧ i = .int .i64 (j : Int) ∧ Hid (k ≤ j ∧ j ≤ k + 20)) (fun i _ => (k + 20 - intOf i).toNat)
          case atStart => exact ⟨k, rfl, rfl, ⟨Nat.le_refl _, by omega⟩⟩
          case round =>
            obtain ⟨j, hw, rfl, J3⟩ := hrel
            subst hw
            by_cases hlt3 : j < k + 20
            · obtain ⟨m, hmk⟩ : ∃ m, k = m := ⟨_, rfl⟩
              rw [hmk] at hlt3 J3 hxl hm' ⊢
              obtain ⟨g1, o1, e1, _, x1, _⟩ := l2_at LX.out j (-2, 0) (groL_at xs (-2, 0) 20 j (by have := hxl.out; have := J3.out.1; omega) (by have := hxl.out; omega))
              obtain ⟨g2, o2, e2, _, x2, _⟩ := l2_at LY.out j (-3, 0) (groL_at BL (-3, 0) 20 j (by have := hm'.out; have := J3.out.1; omega) (by have := hm'.out; omega))
              subst e1
              subst e2
              have i1 := fun u => idxP (g := g1) (off := o1) (len := m + 20) (cap := cx) Tryd.underlying24 (s := 2) (by kernel_rfl) .i64 j u hlt3
              have i2 := fun u => idxP (g := g2) (off := o2) (len := m + 20) (cap := cy) Tryd.underlying24 (s := 2) (by kernel_rfl) .i64 j u hlt3
              have hji : (j : Int) < (m : Int) + 20 := by omega
              have hlt' : Hid (j < m + 20) := hlt3
              clear hlt3
              go_wp2
              go_roundw
              case rel => exact ⟨j + 1, by trivial, by simp, ⟨by have := J3.out.1; omega, hlt'.out⟩⟩
              case measure => have := hlt'.out; simp [intOf]; omega
            · have hje : j = k + 20 := by have := J3.out.2; omega
              have hji : ¬ (j : Int) < (k : Int) + 20 := by omega
              clear hlt3 hje J3
              go_wp2_with (first
                | (go_at_call 22; refine (hSame.out wr pb pc cb cc LB.out LC.out).mono ?_; rintro e z6 ⟨rfl, h6⟩; have K6 : Hid (Below w.heap.size w z6) := lowU.out.trans (h6.mono lowU.out.size); clear h6)
                | fail)
              go_ret
              exact ⟨by first | rfl | simp, K6.out⟩
end Go.Proofs.YtdfjfacilbahkaaDoor
