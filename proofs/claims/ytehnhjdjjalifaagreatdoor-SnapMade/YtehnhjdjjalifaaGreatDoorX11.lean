/- The document's own: Load, where the form and the sum are right. -/
import Derived.Test.YtehnhjdjjalifaaGreatDoorX10
import Derived.Test.YtehnhjdjjalifaaGreatDoorQ14
namespace Go.Proofs.YtehnhjdjjalifaaGreatDoor
open Go Go.RowKit
set_option linter.unusedVariables false
set_option maxHeartbeats 8000000
set_option maxRecDepth 20000

theorem rget_same (w : World) (sp : Option Addr) (n cap : Nat) (l : List UInt8) (hl : Hid (LB w sp l)) (hn : Hid (l.length = n)) (hn2 : n ≤ 9000000000) (at0 k : Nat) (hk8 : k ≤ 8) (hat : at0 + k ≤ n) :
    Calls Tryz.prog 26 #[.slice sp n cap, .int .i64 (at0 : Int), .int .i64 (k : Int)] w fun e w' => e = .returned (.int .u64 (numB l at0 k : Nat)) ∧ w' = w := by
  have ni : (n : Int) ≤ 9000000000 := by omega
  have ai : (at0 : Int) ≤ 9000000000 := by omega
  have ki : (k : Int) ≤ 8 := by omega
  have hh : Hid (k ≤ 8 ∧ at0 + k ≤ n) := ⟨hk8, hat⟩
  clear hn2 hk8 hat
  go_enter Tryz.func26, Tryz.ntmps26
  go_wp2
  go_loopw [7, 8] (fun nv iv wz => ∃ (j m : Nat) (z : Int), w = wz ∧ j ≤ k ∧ nv = .int .u64 (m : Int) ∧ iv = .int .i64 z ∧ Hid (z = (j : Int) - 1) ∧ Hid (m = numB l (at0 + j) (k - j))) (fun _ iv _ => (intOf iv + 1).toNat)
  case atStart => exact ⟨k, 0, (k : Int) - 1, rfl, Nat.le_refl _, rfl, rfl, (rfl : (k : Int) - 1 = _), (by show 0 = _; rw [Nat.sub_self]; unfold numB; rw [List.take_zero]; rfl)⟩
  case round =>
    obtain ⟨j, m, z, hw, hj, rfl, rfl, hz, Hm⟩ := hrel
    subst hw
    have hz' := hz.out
    rcases j with _ | j
    · obtain rfl : z = -1 := by omega
      have fin : Hid (m = numB l at0 k) := by
        show m = _
        rw [Hm.out]
        rfl
      clear hj hz hz'
      go_wp2
      go_ret
      exact ⟨congrArg (fun z : Nat => Ending.returned (.int .u64 (z : Int))) fin.out, rfl⟩
    · obtain rfl : z = (j : Int) := by omega
      have q0 : decide ((0 : Int) ≤ (j : Int)) = true := by simp
      have hjk : Hid (j + 1 ≤ k) := hj
      have hin : at0 + j < n := by have := hh.out.2; omega
      have hL := hl.out
      obtain ⟨gb, ob, rfl⟩ := lb_some hL (by rw [hn.out]; omega)
      obtain ⟨aj, haj⟩ : ∃ t, at0 + j = t := ⟨_, rfl⟩
      have ix := fun v => idxB .i64 gb ob n cap aj v (by omega)
      have cs := lb_at hL aj (by rw [hn.out]; omega)
      obtain ⟨bv, hbv⟩ : ∃ t, (l.getD aj 0).toNat = t := ⟨_, rfl⟩
      rw [hbv] at cs
      have hb8 : bv < 256 := by rw [← hbv]; exact UInt8.toNat_lt _
      have w1 : (at0 : Int) + (j : Int) = (aj : Int) := by omega
      obtain ⟨Y, hY⟩ : ∃ t, 256 * m + bv = t := ⟨_, rfl⟩
      have Hn : Y = numB l (at0 + j) (k - j) := by
        have e : k - j = (k - (j + 1)) + 1 := by omega
        rw [e, num_succ l (at0 + j) _ (by rw [hn.out]; exact hin), haj, hbv, ← hY, Hm.out, show at0 + (j + 1) = aj + 1 by omega]
        omega
      have hYl : Y < 18446744073709551616 := by
        rw [Hn]
        exact Nat.lt_of_lt_of_le (num_lt _ _ _) (Nat.le_trans (Nat.pow_le_pow_right (by decide) (show k - j ≤ 8 by have := hh.out.1; omega)) (by decide))
      have wm : ((256 : Int) * (m : Int)) % 18446744073709551616 = 256 * (m : Int) := by omega
      have wm' : IntKind.u64.wrap ((256 : Int) * (m : Int)) = 256 * (m : Int) := by rw [IntKind.wrap_u64]; exact wm
      have wy : ((256 : Int) * (m : Int) + (bv : Int)) = (Y : Int) := by omega
      have iY : (Y : Int) < 18446744073709551616 := by omega
      have i256 : (256 : Int) * (m : Int) < 18446744073709551616 := by omega
      have ib : (bv : Int) < 256 := by omega
      have iaj : (aj : Int) ≤ 9000000000 := by omega
      have ij : (j : Int) ≤ 8 := by omega
      have Hn' : Hid (Y = numB l (at0 + j) (k - j)) := Hn
      have ij2 : (j : Int) - 1 = (j : Int) - 1 := rfl
      clear hj hz hz' hin hL hbv hb8 hY Hn hYl haj ij2
      go_wp2
      go_roundw
      case rel => exact ⟨j, Y, (j : Int) - 1, trivial, by have := hjk.out; omega, rfl, rfl, (rfl : (j : Int) - 1 = _), Hn'⟩
      case measure => simp [intOf]
/-- The machine's cells, but for the two lists. -/
def fCs (l : List UInt8) : Array Value := bCs (bdOf l) undef undef
def DoneN (l : List UInt8) (n : Nat) (M : Array Value) : Prop := M.size = 35 ∧ ∀ j, j < n → M[j]? = (fCs l)[j]?
theorem DoneN.set {l : List UInt8} {n : Nat} {M : Array Value} (h : DoneN l n M) (v : Value) (hv : (fCs l)[n]? = some v) (hn : n < 35) : DoneN l (n + 1) (M.setIfInBounds n v) := ⟨by simpa using h.1, fun j hj => by
  rcases Nat.lt_or_ge j n with h1 | h1
  · rw [Array.getElem?_setIfInBounds_ne (by omega)]
    exact h.2 j h1
  · obtain rfl : j = n := by omega
    rw [Array.getElem?_setIfInBounds_self_of_lt (by rw [h.1]; exact hn), hv]⟩
/-- The machine that is read, under way. -/
structure LdJ (w : World) (l : List UInt8) (bx n : Nat) (y : World) : Prop where
  box : ∃ M, Bx y bx M 34 ∧ DoneN l n M
  res : Bx y w.heap.size zBd 34
  low : Below w.heap.size w y
  lt : w.heap.size < bx
theorem LdJ.put {w : World} {l : List UInt8} {bx n : Nat} {y : World} (h : LdJ w l bx n y) (v : Value) (hv : (fCs l)[n]? = some v) (hn : n < 35) : LdJ w l bx (n + 1) (y.setCell ⟨bx, n, none⟩ v) := by
  obtain ⟨M, hM, hD⟩ := h.box
  have hlt := h.lt
  exact ⟨⟨_, heap_setCell_same y bx n M _ v hM, hD.set v hv hn⟩, (heap_setCell_other y ⟨bx, n, none⟩ w.heap.size v (Nat.ne_of_lt hlt)).trans h.res, h.low.setCell (p := ⟨bx, n, none⟩) (Nat.le_of_lt hlt) v, hlt⟩
theorem LdJ.cell {w : World} {l : List UInt8} {bx n : Nat} {y : World} (h : LdJ w l bx n y) (j : Nat) (hj : j < 35) : (∃ x, y.cell? ⟨bx, j, none⟩ = some x) ∧ y.frozen? ⟨bx, j, none⟩ = false := by
  obtain ⟨M, hM, hD⟩ := h.box
  exact ⟨⟨M[j]'(by rw [hD.1]; exact hj), hM.c j _ (Array.getElem?_eq_getElem (by rw [hD.1]; exact hj))⟩, hM.fz j⟩
theorem LdJ.below {w : World} {l : List UInt8} {bx n : Nat} {y z : World} (h : LdJ w l bx n y) (hb : Below y.heap.size y z) : LdJ w l bx n z := by
  obtain ⟨M, hM, hD⟩ := h.box
  exact ⟨⟨M, (hb.block _ (heap_lt hM)).trans hM, hD⟩, (hb.block _ (heap_lt h.res)).trans h.res, h.low.trans (hb.mono h.low.size), h.lt⟩
theorem fin_eq {l : List UInt8} {M : Array Value} (h : DoneN l 32 M) (vR vO : Value) : ((M.setIfInBounds 34 (.int .u64 ((numB l 53 8 : Nat) : Int))).setIfInBounds 32 vR).setIfInBounds 33 vO = bCs (bdOf l) vR vO := by
  obtain ⟨hs, hd⟩ := h
  apply Array.ext_getElem?
  intro k
  by_cases h33 : k = 33
  · subst h33
    rw [Array.getElem?_setIfInBounds_self_of_lt (by simp [hs])]
    rfl
  · rw [Array.getElem?_setIfInBounds_ne (fun e => h33 e.symm)]
    by_cases h32 : k = 32
    · subst h32
      rw [Array.getElem?_setIfInBounds_self_of_lt (by simp [hs])]
      rfl
    · rw [Array.getElem?_setIfInBounds_ne (fun e => h32 e.symm)]
      by_cases h34 : k = 34
      · subst h34
        rw [Array.getElem?_setIfInBounds_self_of_lt (by rw [hs]; decide)]
        rfl
      · rw [Array.getElem?_setIfInBounds_ne (fun e => h34 e.symm)]
        rcases Nat.lt_or_ge k 32 with hk | hk
        · rw [hd k hk]
          rcases (show k = 0 ∨ k = 1 ∨ k = 2 ∨ k = 3 ∨ k = 4 ∨ k = 5 ∨ k = 6 ∨ k = 7 ∨ k = 8 ∨ k = 9 ∨ k = 10 ∨ k = 11 ∨ k = 12 ∨ k = 13 ∨ k = 14 ∨ k = 15 ∨ k = 16 ∨ k = 17 ∨ k = 18 ∨ k = 19 ∨ k = 20 ∨ k = 21 ∨ k = 22 ∨ k = 23 ∨ k = 24 ∨ k = 25 ∨ k = 26 ∨ k = 27 ∨ k = 28 ∨ k = 29 ∨ k = 30 ∨ k = 31 by omega) with rfl | rfl | rfl | rfl | rfl | rfl | rfl | rfl | rfl | rfl | rfl | rfl | rfl | rfl | rfl | rfl | rfl | rfl | rfl | rfl | rfl | rfl | rfl | rfl | rfl | rfl | rfl | rfl | rfl | rfl | rfl | rfl <;> rfl
        · have hsz : (bCs (bdOf l) vR vO).size = 35 := rfl
          rw [Array.getElem?_eq_none (by omega), Array.getElem?_eq_none (by omega)]
/-- The machine that is read, all but the last three cells. -/
structure LdK (w : World) (l : List UInt8) (bx : Nat) (M : Array Value) (y : World) : Prop where
  box : Bx y bx M 34
  don : DoneN l 32 M
  res : Bx y w.heap.size zBd 34
  low : Below w.heap.size w y
  lt : w.heap.size < bx
theorem LdK.put {w : World} {l : List UInt8} {bx : Nat} {M : Array Value} {y : World} (h : LdK w l bx M y) (j : Nat) (v : Value) (hj : 32 ≤ j) : LdK w l bx (M.setIfInBounds j v) (y.setCell ⟨bx, j, none⟩ v) :=
  ⟨heap_setCell_same y bx j M _ v h.box, ⟨by simpa using h.don.1, fun k hk => by rw [Array.getElem?_setIfInBounds_ne (by omega)]; exact h.don.2 k hk⟩, (heap_setCell_other y ⟨bx, j, none⟩ w.heap.size v (Nat.ne_of_lt h.lt)).trans h.res, h.low.setCell (p := ⟨bx, j, none⟩) (Nat.le_of_lt h.lt) v, h.lt⟩
theorem LdK.below {w : World} {l : List UInt8} {bx : Nat} {M : Array Value} {y z : World} (h : LdK w l bx M y) (hb : Below y.heap.size y z) : LdK w l bx M z := ⟨(hb.block _ (heap_lt h.box)).trans h.box, h.don, (hb.block _ (heap_lt h.res)).trans h.res, h.low.trans (hb.mono h.low.size), h.lt⟩
theorem one8 (x : UInt8) : ((x.toNat : Int) == 1) = (x == 1) := by
  by_cases h : x = 1
  · subst h; rfl
  · have : x.toNat ≠ 1 := fun e => h (UInt8.toNat_inj.1 e)
    rw [beq_eq_false_iff_ne.2 h, beq_eq_false_iff_ne.2 (by omega)]
theorem setCells4 (y : World) (b : Nat) (a0 a1 a2 a3 : Value) : y.setCells b 26 [a0, a1, a2, a3] = (((y.setCell ⟨b, 26, none⟩ a0).setCell ⟨b, 27, none⟩ a1).setCell ⟨b, 28, none⟩ a2).setCell ⟨b, 29, none⟩ a3 := rfl
theorem slMidB (sp : Option Addr) (n cap a b : Nat) (hab : a ≤ b) (hb : b ≤ n) (hc : n ≤ cap) : ∃ sp1, (∀ v, (Instr.sliceAt 31 (.slice sp n cap) (some (.int .i64 (a : Int))) (some (.int .i64 (b : Int))) none).run Tryz.prog v = .ok (.slice sp1 (b - a) (cap - a)) v) ∧ (∀ (w : World) (l : List UInt8), LB w sp l → LB w sp1 ((l.drop a).take (b - a))) ∧ True := by
  refine ⟨if cap = a then sp else sp.map (·.add (a * 1)), fun v => ?_, fun w l hl j r hj => ?_, trivial⟩
  · have hu : Tryz.prog.underlying 31 = some (.slice (Tryz.prog.elem 31)) := by kernel_rfl
    rw [run_sliceAt_slice v _ _ _ _ _ hu, run_slice_lh v _ _ _ _ hu .i64 .i64 (a : Int) (b : Int) (by omega) (by omega) (by omega)]
    have hz : ∀ v, (sizeOf (Tryz.prog.elem 31)).run Tryz.prog v = .ok 1 v := fun v => by kernel_rfl
    rw [hz]
    simp only [Result.andThen_ok, sliced, Int.toNat_natCast]
  · rw [List.getElem?_take] at hj
    split at hj
    · rename_i hjb
      rw [List.getElem?_drop] at hj
      obtain ⟨g, o, rfl, hr⟩ := hl (a + j) r hj
      refine ⟨g, o + a * 1, ?_, ?_⟩
      · rw [if_neg (by omega)]
        simp [Addr.add_lit]
      · rw [show o + a * 1 + j * 1 = o + (a + j) * 1 by omega]
        exact hr
    · cases hj
theorem rload_go (w : World) (sp : Option Addr) (cap : Nat) (l : List UInt8) (hl : Hid (LB w sp l)) (hn : l.length ≤ 4000000000) (hcap : l.length ≤ cap) (hf : formB l = true) (hs : sumOk l = true) (hC : Hid (∀ y M, Below w.heap.size w y → MOk w l M y → Calls Tryz.prog 19 #[.agg M] y fun e w' => e = .returned (.int .i64 (chkB (bdOf l))) ∧ Below y.heap.size y w')) :
    Calls Tryz.prog 12 #[.slice sp l.length cap] w (LdE w l) := by
  have hff := hf
  have hss := hs
  obtain ⟨f1, f2, f3, f4⟩ := form_parts hf
  obtain ⟨n, hn'⟩ : ∃ n, l.length = n := ⟨_, rfl⟩
  have hnn : Hid (l.length = n) := hn'
  rw [hn'] at hn f1 f3 hcap ⊢
  have ni : (n : Int) ≤ 4000000000 := by omega
  have d63 : decide ((n : Int) < 63) = false := decide_eq_false (by omega)
  obtain ⟨g, o, rfl⟩ := lb_some hl.out (by omega)
  have cell : ∀ y, Below w.heap.size w y → ∀ j, j < n → y.cell? ⟨g, o + j, none⟩ = some (.int .u8 ((l.getD j 0).toNat : Int)) := fun y hy j hj => lb_at (hl.out.below hy) j (by rw [hn']; exact hj)
  have cell' : Hid (∀ y, Below w.heap.size w y → ∀ j, j < n → y.cell? ⟨g, o + j, none⟩ = some (.int .u8 ((l.getD j 0).toNat : Int))) := cell
  have h63' : Hid (63 ≤ n) := f1
  have hfl : Hid (∀ i, i < 5 → (l.getD (flN i) 0).toNat ≤ 1) := f4
  have ix0 : ∀ v, (Instr.indexAt 31 (.slice (some ⟨g, o, none⟩) n cap) (.int .i64 0)).run Tryz.prog v = .ok (.pointer (some ⟨g, o, none⟩)) v := fun v => idxB .i64 g o n cap 0 v (by omega)
  have ix1 : ∀ v, (Instr.indexAt 31 (.slice (some ⟨g, o, none⟩) n cap) (.int .i64 1)).run Tryz.prog v = .ok (.pointer (some ⟨g, o + 1, none⟩)) v := fun v => idxB .i64 g o n cap 1 v (by omega)
  have ix2 : ∀ v, (Instr.indexAt 31 (.slice (some ⟨g, o, none⟩) n cap) (.int .i64 2)).run Tryz.prog v = .ok (.pointer (some ⟨g, o + 2, none⟩)) v := fun v => idxB .i64 g o n cap 2 v (by omega)
  have ix3 : ∀ v, (Instr.indexAt 31 (.slice (some ⟨g, o, none⟩) n cap) (.int .i64 3)).run Tryz.prog v = .ok (.pointer (some ⟨g, o + 3, none⟩)) v := fun v => idxB .i64 g o n cap 3 v (by omega)
  have hb0 : (l.getD 0 0).toNat = 86 := by
    have e := congrArg (fun m : List UInt8 => m[0]?) f2
    simp only [List.getElem?_take] at e
    rw [if_pos (by decide)] at e
    rw [List.getD_eq_getElem?_getD, e]
    rfl
  have hb1 : (l.getD 1 0).toNat = 83 := by
    have e := congrArg (fun m : List UInt8 => m[1]?) f2
    simp only [List.getElem?_take] at e
    rw [if_pos (by decide)] at e
    rw [List.getD_eq_getElem?_getD, e]
    rfl
  have hb2 : (l.getD 2 0).toNat = 80 := by
    have e := congrArg (fun m : List UInt8 => m[2]?) f2
    simp only [List.getElem?_take] at e
    rw [if_pos (by decide)] at e
    rw [List.getD_eq_getElem?_getD, e]
    rfl
  have hb3 : (l.getD 3 0).toNat = 49 := by
    have e := congrArg (fun m : List UInt8 => m[3]?) f2
    simp only [List.getElem?_take] at e
    rw [if_pos (by decide)] at e
    rw [List.getD_eq_getElem?_getD, e]
    rfl
  have hx : Hid (∀ y, Below w.heap.size w y → y.cell? ⟨g, o, none⟩ = some (.int .u8 86) ∧ y.cell? ⟨g, o + 1, none⟩ = some (.int .u8 83) ∧ y.cell? ⟨g, o + 2, none⟩ = some (.int .u8 80) ∧ y.cell? ⟨g, o + 3, none⟩ = some (.int .u8 49)) := fun y hy => by
    have c0 := cell y hy 0 (by omega)
    rw [hb0] at c0
    have c1 := cell y hy 1 (by omega)
    rw [hb1] at c1
    have c2 := cell y hy 2 (by omega)
    rw [hb2] at c2
    have c3 := cell y hy 3 (by omega)
    rw [hb3] at c3
    exact ⟨c0, c1, c2, c3⟩
  obtain ⟨RN, hRN⟩ : ∃ r, ramN l = r := ⟨_, rfl⟩
  have hG : Hid (∀ y, Below w.heap.size w y → Calls Tryz.prog 26 #[.slice (some ⟨g, o, none⟩) n cap, .int .i64 61, .int .i64 2] y fun e w' => e = .returned (.int .u64 (RN : Int)) ∧ Below y.heap.size y w') := fun y hy => by
    have := rget_any y (some ⟨g, o, none⟩) n cap l (hl.out.below hy) hnn (by omega) 61 2 (by decide) (by have := h63'.out; omega)
    rw [← hRN]
    exact this
  rw [hRN] at f3
  have hR6 : RN < 65536 := by rw [← hRN]; exact ramN_lt l
  have iR : (RN : Int) < 65536 := by omega
  have w1 : IntKind.i64.wrap (63 + (RN : Int)) = 63 + (RN : Int) := by rw [IntKind.wrap_i64]; omega
  have w2 : IntKind.i64.wrap (63 + (RN : Int) + 520) = 63 + (RN : Int) + 520 := by rw [IntKind.wrap_i64]; omega
  have ql : ((n : Int) != 63 + (RN : Int) + 520) = false := by rw [bne_eq_false_iff_eq]; omega
  obtain ⟨m, hm⟩ : ∃ m, n = m + 8 := ⟨n - 8, by omega⟩
  have wm : (n : Int) - 8 = (m : Int) := by omega
  have wm2 : IntKind.i64.wrap ((n : Int) - 8) = (m : Int) := by rw [IntKind.wrap_i64]; omega
  have hsl := fun v => slLow g o n cap m (by omega) v
  obtain ⟨S1, hS1⟩ : ∃ S, sumB (l.take m) = S := ⟨_, rfl⟩
  obtain ⟨S2, hS2⟩ : ∃ S, numB l m 8 = S := ⟨_, rfl⟩
  have hSu : Hid (∀ y, Below w.heap.size w y → Calls Tryz.prog 14 #[.slice (some ⟨g, o, none⟩) m cap] y fun e w' => e = .returned (.int .u64 (S1 : Int)) ∧ Below y.heap.size y w') := fun y hy => by
    have hlt : LB y (some ⟨g, o, none⟩) (l.take m) := fun j a hj => by
      rw [List.getElem?_take] at hj
      split at hj
      · exact (hl.out.below hy) j a hj
      · cases hj
    have := rsum_any y (some ⟨g, o, none⟩) m cap (l.take m) hlt (show (l.take m).length = m by rw [List.length_take, hn']; omega) (by omega)
    rw [hS1] at this
    exact this
  have hG2 : Hid (∀ y, Below w.heap.size w y → Calls Tryz.prog 26 #[.slice (some ⟨g, o, none⟩) n cap, .int .i64 (m : Int), .int .i64 8] y fun e w' => e = .returned (.int .u64 (S2 : Int)) ∧ Below y.heap.size y w') := fun y hy => by
    have := rget_any y (some ⟨g, o, none⟩) n cap l (hl.out.below hy) hnn (by omega) m 8 (by decide) (by omega)
    rw [← hS2]
    exact this
  have qs : ((S1 : Int) != (S2 : Int)) = false := by
    rw [bne_eq_false_iff_eq]
    unfold sumOk at hs
    rw [hn', show n - 8 = m from by omega, hS1, hS2, beq_iff_eq] at hs
    omega
  have hlen : Hid (l.length = 583 + RN ∧ RN < 65536 ∧ ramN l = RN) := ⟨by omega, hR6, hRN⟩
  have hG16 : Hid (∀ y k, Below w.heap.size w y → k < 16 → Calls Tryz.prog 26 #[.slice (some ⟨g, o, none⟩) n cap, .int .i64 ((4 + 2 * k : Nat) : Int), .int .i64 2] y fun e w' => e = .returned (.int .u64 (numB l (4 + 2 * k) 2 : Nat)) ∧ w' = y) := fun y k hy hk => rget_same y (some ⟨g, o, none⟩) n cap l (hl.out.below hy) hnn (by omega) (4 + 2 * k) 2 (by decide) (by omega)
  have hG46 : Hid (∀ y, LB y (some ⟨g, o, none⟩) l → Calls Tryz.prog 26 #[.slice (some ⟨g, o, none⟩) n cap, .int .i64 46, .int .i64 2] y fun e w' => e = .returned (.int .u64 (numB l 46 2 : Nat)) ∧ w' = y) := fun y hy => rget_same y (some ⟨g, o, none⟩) n cap l hy hnn (by omega) 46 2 (by decide) (by omega)
  have hG53 : Hid (∀ y, Below w.heap.size w y → Calls Tryz.prog 26 #[.slice (some ⟨g, o, none⟩) n cap, .int .i64 53, .int .i64 8] y fun e w' => e = .returned (.int .u64 (numB l 53 8 : Nat)) ∧ w' = y) := fun y hy => rget_same y (some ⟨g, o, none⟩) n cap l (hl.out.below hy) hnn (by omega) 53 8 (by decide) (by omega)
  have hlS : Hid (LB w (some ⟨g, o, none⟩) l) := hl
  obtain ⟨spa, hsla, hlba, hspa⟩ := slMidB (some ⟨g, o, none⟩) n cap 63 (63 + RN) (by omega) (by omega) (by omega)
  obtain ⟨spb, hslb, hlbb, hspb⟩ := slMidB (some ⟨g, o, none⟩) n cap (63 + RN) (575 + RN) (by omega) (by omega) (by omega)
  have hBa : Hid (∀ y, Below w.heap.size w y → Calls Tryz.prog 28 #[.slice spa RN (cap - 63)] y fun e w' => e = .returned (.slice (some ⟨y.heap.size, 0, none⟩) RN RN) ∧ Hid (Bx w' y.heap.size (rowL cB (bdOf l).ram).toArray 5 ∧ Below y.heap.size y w')) := fun y hy => by
    have e : (bdOf l).ram.length = RN := by show ((l.drop 63).take (ramN l)).length = RN; rw [List.length_take, List.length_drop, hRN]; omega
    have := bytes08_any y spa (cap - 63) (bdOf l).ram (by have h := hlba y l (hl.out.below hy); rw [show 63 + RN - 63 = RN by omega, ← hRN] at h; exact h) (by omega)
    rw [e] at this
    exact this
  have hBb : Hid (∀ y, Below w.heap.size w y → Calls Tryz.prog 28 #[.slice spb 512 (cap - (63 + RN))] y fun e w' => e = .returned (.slice (some ⟨y.heap.size, 0, none⟩) 512 512) ∧ Hid (Bx w' y.heap.size (rowL cB (bdOf l).rom).toArray 5 ∧ Below y.heap.size y w')) := fun y hy => by
    have e : (bdOf l).rom.length = 512 := by show ((l.drop (63 + ramN l)).take 512).length = 512; rw [List.length_take, List.length_drop, hRN]; omega
    have := bytes08_any y spb (cap - (63 + RN)) (bdOf l).rom (by have h := hlbb y l (hl.out.below hy); rw [show 575 + RN - (63 + RN) = 512 by omega] at h; rw [← hRN] at h; exact h) (by omega)
    rw [e] at this
    exact this
  have hlens : Hid ((bdOf l).ram.length = RN ∧ (bdOf l).rom.length = 512) := ⟨by show ((l.drop 63).take (ramN l)).length = RN; rw [List.length_take, List.length_drop, hRN]; omega, by show ((l.drop (63 + ramN l)).take 512).length = 512; rw [List.length_take, List.length_drop, hRN]; omega⟩
  rw [show 63 + RN - 63 = RN by omega] at hsla
  rw [show 575 + RN - (63 + RN) = 512 by omega] at hslb
  have er1 : ((63 + RN : Nat) : Int) = 63 + (RN : Int) := by omega
  have er2 : ((575 + RN : Nat) : Int) = 63 + (RN : Int) + 512 := by omega
  rw [er1] at hsla hslb
  rw [er2] at hslb
  simp only [Int.cast_ofNat_Int] at hsla
  have w5 : IntKind.i64.wrap (63 + (RN : Int) + 512) = 63 + (RN : Int) + 512 := by rw [IntKind.wrap_i64]; omega
  clear hlba hlbb hspa hspb er1 er2 hl
  clear hf hs f1 f2 f3 f4 hn hn' hb0 hb1 hb2 hb3 hRN hR6 hm hS1 hS2 cell hcap
  go_enter Tryz.func12, Tryz.ntmps12
  go_wp2_with (first
    | ((with_reducible refine gen_world (w.alloc (.cells #[.int .u16 0, .int .u16 0, .int .u16 0, .int .u16 0, .int .u16 0, .int .u16 0, .int .u16 0, .int .u16 0, .int .u16 0, .int .u16 0, .int .u16 0, .int .u16 0, .int .u16 0, .int .u16 0, .int .u16 0, .int .u16 0, .int .u8 0, .bool false, .int .u8 0, .int .u8 0, .int .u8 0, .bool false, .bool false, .int .u8 0, .int .u8 0, .int .u8 0, .int .i64 0, .int .i64 0, .bool false, .int .i64 0, .int .u8 0, .bool false, .slice none 0 0, .slice none 0 0, .int .u64 0] 34)) (Fm w [(w.heap.size, zBd, 34)]) ?_ ?_); exact Fm.one w _ _; intro y0 K0; obtain ⟨p0, p1, p2, p3⟩ := hx.out _ K0.out.low)
    | (go_at_call 26; refine (hG.out _ K0.out.low).mono ?_; rintro e y1 ⟨rfl, H1⟩; have K1 : Hid (Fm w [(w.heap.size, zBd, 34)] y1) := K0.out.below H1; clear H1 hG)
    | (go_at_call 27; refine (flags_any y1).mono ?_; rintro e y2 ⟨rfl, H2⟩; have K2 : Hid (Fm w [(w.heap.size, zBd, 34)] y2 ∧ Bx y2 y1.heap.size flC 3) := ⟨K1.out.below H2.out.2, H2.out.1⟩; clear H2))
  generalize y1.heap.size = gf at K2 ⊢
  go_loopw [6] (fun t wz => ∃ (i : Nat), y2 = wz ∧ t = .int .i64 (i : Int) ∧ Hid (i ≤ 5)) (fun t _ => (5 - intOf t).toNat)
  case atStart => exact ⟨0, rfl, rfl, Nat.zero_le _⟩
  case round =>
    obtain ⟨i, rfl, rfl, J⟩ := hrel
    by_cases hlt : i < 5
    · have cf := K2.out.2.c i _ (flC_at i hlt)
      have hfi : flN i < 63 := by
        have : i = 0 ∨ i = 1 ∨ i = 2 ∨ i = 3 ∨ i = 4 := by omega
        rcases this with rfl | rfl | rfl | rfl | rfl <;> decide
      have hfn : flN i < n := by have := h63'.out; omega
      have cb := cell'.out _ K2.out.1.low (flN i) hfn
      have jf : ∀ v, (Instr.indexAt 45 (.slice (some ⟨gf, 0, none⟩) 5 5) (.int .i64 (i : Int))).run Tryz.prog v = .ok (.pointer (some ⟨gf, i, none⟩)) v := fun v => by
        have := idxP (P := Tryz.prog) (g := gf) (off := 0) (len := 5) (cap := 5) Tryz.underlying45 (s := 1) (by kernel_rfl) .i64 i v hlt
        rw [Nat.mul_one, Nat.zero_add] at this
        exact this
      have jb := fun v => idxB .i64 g o n cap (flN i) v hfn
      have hii : (i : Int) < 5 := by omega
      have hlt' : Hid (i < 5) := hlt
      have hv := hfl.out i hlt
      have dv : decide ((1 : Int) < ((l.getD (flN i) 0).toNat : Int)) = false := decide_eq_false (by omega)
      generalize ((l.getD (flN i) 0).toNat : Int) = v at cb dv
      clear hv
      generalize flN i = fi at cf cb jb hfi hfn
      clear hlt J hfi hfn
      go_wp2
      go_roundw
      case rel => exact ⟨i + 1, by simp, by simp, hlt'.out⟩
      case measure => have := hlt'.out; simp [intOf]; omega
    · have hie : i = 5 := by have := J.out; omega
      subst hie
      clear hlt J
      go_wp2_with (first
        | (go_at_call 14; refine (hSu.out _ K2.out.1.low).mono ?_; rintro e y3 ⟨rfl, H3⟩; have K3 : Hid (Fm w [(w.heap.size, zBd, 34)] y3) := K2.out.1.below H3; clear H3 hSu)
        | (go_at_call 26; refine (hG2.out _ K3.out.low).mono ?_; rintro e y4 ⟨rfl, H4⟩; have K4 : Hid (Fm w [(w.heap.size, zBd, 34)] y4) := K3.out.below H4; clear H4 hG2; refine stopAt ?_))
      refine Stop.go ?_
      go_upto_region 15 with (first
        | ((with_reducible refine gen_world (y4.alloc (.cells #[.int .u16 0, .int .u16 0, .int .u16 0, .int .u16 0, .int .u16 0, .int .u16 0, .int .u16 0, .int .u16 0, .int .u16 0, .int .u16 0, .int .u16 0, .int .u16 0, .int .u16 0, .int .u16 0, .int .u16 0, .int .u16 0, .int .u8 0, .bool false, .int .u8 0, .int .u8 0, .int .u8 0, .bool false, .bool false, .int .u8 0, .int .u8 0, .int .u8 0, .int .i64 0, .int .i64 0, .bool false, .int .i64 0, .int .u8 0, .bool false, .slice none 0 0, .slice none 0 0, .int .u64 0] 34)) (fun z => Fm w [(w.heap.size, zBd, 34), (y4.heap.size, zBd, 34)] z) ?_ ?_); exact K4.out.new _ _; intro y5 K5)
        | ((with_reducible refine at_st rtBd y4.heap.size zBd zBd ?_ ?_ ?_ ?_ (.tmp 7) (.tmp 77) ?_ ?_ ?_ ?_ ?_); exact K5.out.bx 1 _ _ _ rfl; rfl; rfl; exact zBd_one; rfl; rfl; rfl; rfl; intro y6 h6; have K6 : Hid (Fm w [(w.heap.size, zBd, 34), (y4.heap.size, zBd, 34)] y6) := K5.out.put 1 _ _ _ _ rfl h6.out; clear h6))
      have J6 : Hid (LdJ w l y4.heap.size 0 y6) := ⟨⟨zBd, K6.out.bx 1 _ _ _ rfl, rfl, fun j hj => absurd hj (Nat.not_lt_zero _)⟩, K6.out.bx 0 _ _ _ rfl, K6.out.low, heap_lt (K4.out.bx 0 _ _ _ rfl)⟩
      generalize y4.heap.size = bx at J6 ⊢
      clear K5 K6 K4 K3 K2
      go_wp2
      go_loopw [8] (fun t wz => ∃ (k : Nat) (y : World), y = wz ∧ k ≤ 16 ∧ t = .int .i64 (k : Int) ∧ Hid (LdJ w l bx k y)) (fun t _ => (16 - intOf t).toNat)
      case atStart => exact ⟨0, y6, rfl, by decide, rfl, J6⟩
      case round =>
        obtain ⟨k, y, rfl, hk, rfl, J⟩ := hrel
        clear J6
        by_cases hlt : k < 16
        · have hki : (k : Int) < 16 := by omega
          have hlt' : Hid (k < 16) := hlt
          obtain ⟨V, hV⟩ : ∃ z, numB l (4 + 2 * k) 2 = z := ⟨_, rfl⟩
          have hV6 : V < 65536 := by rw [← hV]; exact num_lt l _ 2
          have hcall := hG16.out y k J.out.low hlt
          rw [hV] at hcall
          have ek : ((4 + 2 * k : Nat) : Int) = 4 + 2 * (k : Int) := by omega
          rw [ek] at hcall
          have hcall' : Hid (Calls Tryz.prog 26 #[.slice (some ⟨g, o, none⟩) n cap, .int .i64 (4 + 2 * (k : Int)), .int .i64 2] y fun e w' => e = .returned (.int .u64 (V : Int)) ∧ w' = y) := hcall
          have wk1 : IntKind.i64.wrap (2 * (k : Int)) = 2 * (k : Int) := by rw [IntKind.wrap_i64]; omega
          have wk2 : IntKind.i64.wrap (4 + 2 * (k : Int)) = 4 + 2 * (k : Int) := by rw [IntKind.wrap_i64]; omega
          have iV : (V : Int) < 65536 := by omega
          have wV : IntKind.u16.wrap (V : Int) = (V : Int) := by rw [IntKind.wrap_u16]; omega
          have ixk := fun u => idx (g := bx) (off := 0) (N := 16) (s := 1) Tryz.underlying23 (by kernel_rfl) .i64 k u hlt
          simp only [Nat.zero_add, Nat.mul_one] at ixk
          obtain ⟨⟨x, cx⟩, fz⟩ := J.out.cell k (by omega)
          have H : Hid (LdJ w l bx (k + 1) (y.setCell ⟨bx, k, none⟩ (.int .u16 (V : Int)))) := J.out.put _ (by
            rw [← hV]
            rcases (show k = 0 ∨ k = 1 ∨ k = 2 ∨ k = 3 ∨ k = 4 ∨ k = 5 ∨ k = 6 ∨ k = 7 ∨ k = 8 ∨ k = 9 ∨ k = 10 ∨ k = 11 ∨ k = 12 ∨ k = 13 ∨ k = 14 ∨ k = 15 by omega) with rfl | rfl | rfl | rfl | rfl | rfl | rfl | rfl | rfl | rfl | rfl | rfl | rfl | rfl | rfl | rfl <;> rfl) (by omega)
          clear hk hlt hcall hV hV6 ek
          go_wp2_with (go_at_call 26; refine hcall'.out.mono ?_; rintro e y ⟨rfl, rfl⟩)
          go_roundw
          case rel => exact ⟨k + 1, _, rfl, hlt'.out, by simp, H⟩
          case measure => have := hlt'.out; simp [intOf]; omega
        · obtain rfl : k = 16 := by omega
          clear hk hlt
          have Y0 : Hid (LdJ w l bx 16 y) := J.out
          clear J
          go_upto_region 19 with (fail)
          have p := cell'.out y Y0.out.low 36 (by have := h63'.out; omega)
          obtain ⟨u0, hu0⟩ : ∃ z, (l.getD 36 0).toNat = z := ⟨_, rfl⟩
          rw [hu0] at p
          have iu : (u0 : Int) < 256 := by have := UInt8.toNat_lt (l.getD 36 0); omega
          have ib := fun v => idxB .i64 g o n cap 36 v (by have := h63'.out; omega)
          simp only [Int.cast_ofNat_Int] at ib
          obtain ⟨⟨x, cx⟩, fz⟩ := Y0.out.cell 16 (by decide)
          have Y1 : Hid (LdJ w l bx 17 (y.setCell ⟨bx, 16, none⟩ (.int .u8 (u0 : Int)))) := Y0.out.put _ (by rw [← hu0]; rfl) (by decide)
          clear hu0
          go_upto_region 20 with (fail)
          generalize (y.setCell ⟨bx, 16, none⟩ (.int .u8 (u0 : Int))) = z0 at Y1 ⊢
          clear p ib cx fz iu Y0
          have p := cell'.out z0 Y1.out.low 37 (by have := h63'.out; omega)
          obtain ⟨u1, hu1⟩ : ∃ z, (l.getD 37 0).toNat = z := ⟨_, rfl⟩
          rw [hu1] at p
          have iu : (u1 : Int) < 256 := by have := UInt8.toNat_lt (l.getD 37 0); omega
          have ib := fun v => idxB .i64 g o n cap 37 v (by have := h63'.out; omega)
          simp only [Int.cast_ofNat_Int] at ib
          obtain ⟨⟨x, cx⟩, fz⟩ := Y1.out.cell 17 (by decide)
          obtain ⟨q1, hq1⟩ : ∃ z, ((u1 : Int) == 1) = z := ⟨_, rfl⟩
          have Y2 : Hid (LdJ w l bx 18 (z0.setCell ⟨bx, 17, none⟩ (.bool q1))) := Y1.out.put _ (by rw [← hq1, ← hu1, one8]; rfl) (by decide)
          clear hu1
          go_upto_region 21 with (fail)
          generalize (z0.setCell ⟨bx, 17, none⟩ (.bool q1)) = z1 at Y2 ⊢
          clear p ib cx fz iu Y1 hq1
          have p := cell'.out z1 Y2.out.low 38 (by have := h63'.out; omega)
          obtain ⟨u2, hu2⟩ : ∃ z, (l.getD 38 0).toNat = z := ⟨_, rfl⟩
          rw [hu2] at p
          have iu : (u2 : Int) < 256 := by have := UInt8.toNat_lt (l.getD 38 0); omega
          have ib := fun v => idxB .i64 g o n cap 38 v (by have := h63'.out; omega)
          simp only [Int.cast_ofNat_Int] at ib
          obtain ⟨⟨x, cx⟩, fz⟩ := Y2.out.cell 18 (by decide)
          have Y3 : Hid (LdJ w l bx 19 (z1.setCell ⟨bx, 18, none⟩ (.int .u8 (u2 : Int)))) := Y2.out.put _ (by rw [← hu2]; rfl) (by decide)
          clear hu2
          go_upto_region 22 with (fail)
          generalize (z1.setCell ⟨bx, 18, none⟩ (.int .u8 (u2 : Int))) = z2 at Y3 ⊢
          clear p ib cx fz iu Y2
          have p := cell'.out z2 Y3.out.low 39 (by have := h63'.out; omega)
          obtain ⟨u3, hu3⟩ : ∃ z, (l.getD 39 0).toNat = z := ⟨_, rfl⟩
          rw [hu3] at p
          have iu : (u3 : Int) < 256 := by have := UInt8.toNat_lt (l.getD 39 0); omega
          have ib := fun v => idxB .i64 g o n cap 39 v (by have := h63'.out; omega)
          simp only [Int.cast_ofNat_Int] at ib
          obtain ⟨⟨x, cx⟩, fz⟩ := Y3.out.cell 19 (by decide)
          have Y4 : Hid (LdJ w l bx 20 (z2.setCell ⟨bx, 19, none⟩ (.int .u8 (u3 : Int)))) := Y3.out.put _ (by rw [← hu3]; rfl) (by decide)
          clear hu3
          go_upto_region 23 with (fail)
          generalize (z2.setCell ⟨bx, 19, none⟩ (.int .u8 (u3 : Int))) = z3 at Y4 ⊢
          clear p ib cx fz iu Y3
          have p := cell'.out z3 Y4.out.low 40 (by have := h63'.out; omega)
          obtain ⟨u4, hu4⟩ : ∃ z, (l.getD 40 0).toNat = z := ⟨_, rfl⟩
          rw [hu4] at p
          have iu : (u4 : Int) < 256 := by have := UInt8.toNat_lt (l.getD 40 0); omega
          have ib := fun v => idxB .i64 g o n cap 40 v (by have := h63'.out; omega)
          simp only [Int.cast_ofNat_Int] at ib
          obtain ⟨⟨x, cx⟩, fz⟩ := Y4.out.cell 20 (by decide)
          have Y5 : Hid (LdJ w l bx 21 (z3.setCell ⟨bx, 20, none⟩ (.int .u8 (u4 : Int)))) := Y4.out.put _ (by rw [← hu4]; rfl) (by decide)
          clear hu4
          go_upto_region 24 with (fail)
          generalize (z3.setCell ⟨bx, 20, none⟩ (.int .u8 (u4 : Int))) = z4 at Y5 ⊢
          clear p ib cx fz iu Y4
          have p := cell'.out z4 Y5.out.low 41 (by have := h63'.out; omega)
          obtain ⟨u5, hu5⟩ : ∃ z, (l.getD 41 0).toNat = z := ⟨_, rfl⟩
          rw [hu5] at p
          have iu : (u5 : Int) < 256 := by have := UInt8.toNat_lt (l.getD 41 0); omega
          have ib := fun v => idxB .i64 g o n cap 41 v (by have := h63'.out; omega)
          simp only [Int.cast_ofNat_Int] at ib
          obtain ⟨⟨x, cx⟩, fz⟩ := Y5.out.cell 21 (by decide)
          obtain ⟨q5, hq5⟩ : ∃ z, ((u5 : Int) == 1) = z := ⟨_, rfl⟩
          have Y6 : Hid (LdJ w l bx 22 (z4.setCell ⟨bx, 21, none⟩ (.bool q5))) := Y5.out.put _ (by rw [← hq5, ← hu5, one8]; rfl) (by decide)
          clear hu5
          go_upto_region 25 with (fail)
          generalize (z4.setCell ⟨bx, 21, none⟩ (.bool q5)) = z5 at Y6 ⊢
          clear p ib cx fz iu Y5 hq5
          have p := cell'.out z5 Y6.out.low 42 (by have := h63'.out; omega)
          obtain ⟨u6, hu6⟩ : ∃ z, (l.getD 42 0).toNat = z := ⟨_, rfl⟩
          rw [hu6] at p
          have iu : (u6 : Int) < 256 := by have := UInt8.toNat_lt (l.getD 42 0); omega
          have ib := fun v => idxB .i64 g o n cap 42 v (by have := h63'.out; omega)
          simp only [Int.cast_ofNat_Int] at ib
          obtain ⟨⟨x, cx⟩, fz⟩ := Y6.out.cell 22 (by decide)
          obtain ⟨q6, hq6⟩ : ∃ z, ((u6 : Int) == 1) = z := ⟨_, rfl⟩
          have Y7 : Hid (LdJ w l bx 23 (z5.setCell ⟨bx, 22, none⟩ (.bool q6))) := Y6.out.put _ (by rw [← hq6, ← hu6, one8]; rfl) (by decide)
          clear hu6
          go_upto_region 26 with (fail)
          generalize (z5.setCell ⟨bx, 22, none⟩ (.bool q6)) = z6 at Y7 ⊢
          clear p ib cx fz iu Y6 hq6
          have p := cell'.out z6 Y7.out.low 43 (by have := h63'.out; omega)
          obtain ⟨u7, hu7⟩ : ∃ z, (l.getD 43 0).toNat = z := ⟨_, rfl⟩
          rw [hu7] at p
          have iu : (u7 : Int) < 256 := by have := UInt8.toNat_lt (l.getD 43 0); omega
          have ib := fun v => idxB .i64 g o n cap 43 v (by have := h63'.out; omega)
          simp only [Int.cast_ofNat_Int] at ib
          obtain ⟨⟨x, cx⟩, fz⟩ := Y7.out.cell 23 (by decide)
          have Y8 : Hid (LdJ w l bx 24 (z6.setCell ⟨bx, 23, none⟩ (.int .u8 (u7 : Int)))) := Y7.out.put _ (by rw [← hu7]; rfl) (by decide)
          clear hu7
          go_upto_region 27 with (fail)
          generalize (z6.setCell ⟨bx, 23, none⟩ (.int .u8 (u7 : Int))) = z7 at Y8 ⊢
          clear p ib cx fz iu Y7
          have p := cell'.out z7 Y8.out.low 44 (by have := h63'.out; omega)
          obtain ⟨u8, hu8⟩ : ∃ z, (l.getD 44 0).toNat = z := ⟨_, rfl⟩
          rw [hu8] at p
          have iu : (u8 : Int) < 256 := by have := UInt8.toNat_lt (l.getD 44 0); omega
          have ib := fun v => idxB .i64 g o n cap 44 v (by have := h63'.out; omega)
          simp only [Int.cast_ofNat_Int] at ib
          obtain ⟨⟨x, cx⟩, fz⟩ := Y8.out.cell 24 (by decide)
          have Y9 : Hid (LdJ w l bx 25 (z7.setCell ⟨bx, 24, none⟩ (.int .u8 (u8 : Int)))) := Y8.out.put _ (by rw [← hu8]; rfl) (by decide)
          clear hu8
          go_upto_region 28 with (fail)
          generalize (z7.setCell ⟨bx, 24, none⟩ (.int .u8 (u8 : Int))) = z8 at Y9 ⊢
          clear p ib cx fz iu Y8
          have p := cell'.out z8 Y9.out.low 45 (by have := h63'.out; omega)
          obtain ⟨u9, hu9⟩ : ∃ z, (l.getD 45 0).toNat = z := ⟨_, rfl⟩
          rw [hu9] at p
          have iu : (u9 : Int) < 256 := by have := UInt8.toNat_lt (l.getD 45 0); omega
          have ib := fun v => idxB .i64 g o n cap 45 v (by have := h63'.out; omega)
          simp only [Int.cast_ofNat_Int] at ib
          obtain ⟨⟨x, cx⟩, fz⟩ := Y9.out.cell 25 (by decide)
          have Y10 : Hid (LdJ w l bx 26 (z8.setCell ⟨bx, 25, none⟩ (.int .u8 (u9 : Int)))) := Y9.out.put _ (by rw [← hu9]; rfl) (by decide)
          clear hu9
          go_upto_region 29 with (fail)
          generalize (z8.setCell ⟨bx, 25, none⟩ (.int .u8 (u9 : Int))) = z9 at Y10 ⊢
          clear p ib cx fz iu Y9
          obtain ⟨VL, hVL⟩ : ∃ z, numB l 46 2 = z := ⟨_, rfl⟩
          have hVL6 : VL < 65536 := by rw [← hVL]; exact num_lt l _ 2
          have iVL : (VL : Int) < 65536 := by omega
          rw [hVL] at hG46
          have p48 := cell'.out z9 Y10.out.low 48 (by have := h63'.out; omega)
          have p49 := cell'.out z9 Y10.out.low 49 (by have := h63'.out; omega)
          have p50 := cell'.out z9 Y10.out.low 50 (by have := h63'.out; omega)
          obtain ⟨a48, h48⟩ : ∃ z, (l.getD 48 0).toNat = z := ⟨_, rfl⟩
          obtain ⟨a49, h49⟩ : ∃ z, (l.getD 49 0).toNat = z := ⟨_, rfl⟩
          obtain ⟨a50, h50⟩ : ∃ z, (l.getD 50 0).toNat = z := ⟨_, rfl⟩
          rw [h48] at p48
          rw [h49] at p49
          rw [h50] at p50
          have i48 : (a48 : Int) < 256 := by have := UInt8.toNat_lt (l.getD 48 0); omega
          have i49 : (a49 : Int) < 256 := by have := UInt8.toNat_lt (l.getD 49 0); omega
          have i50 : (a50 : Int) < 256 := by have := UInt8.toNat_lt (l.getD 50 0); omega
          have ib48 := fun v => idxB .i64 g o n cap 48 v (by have := h63'.out; omega)
          have ib49 := fun v => idxB .i64 g o n cap 49 v (by have := h63'.out; omega)
          have ib50 := fun v => idxB .i64 g o n cap 50 v (by have := h63'.out; omega)
          simp only [Int.cast_ofNat_Int] at ib48 ib49 ib50
          obtain ⟨q49, hq49⟩ : ∃ z, ((a49 : Int) == 1) = z := ⟨_, rfl⟩
          have HR : Hid (∀ m, LdJ w l bx 30 ((z9.drewN m).setCells bx 26 [.int .i64 (VL : Int), .int .i64 (a48 : Int), .bool q49, .int .i64 (a50 : Int)])) := fun m => by
            rw [setCells4]
            exact ((((Y10.out.below (below_drewN (Below.refl _ _))).put _ (by rw [← hVL]; rfl) (by decide)).put _ (by rw [← h48]; rfl) (by decide)).put _ (by rw [← hq49, ← h49, one8]; rfl) (by decide)).put _ (by rw [← h50]; rfl) (by decide)
          have hth : Hid (∀ m, (z9.drewN m).there bx 26 4) := fun m k hk => by
            obtain ⟨⟨x, cx⟩, fz⟩ := Y10.out.cell (26 + k) (by omega)
            exact ⟨by rw [show (z9.drewN m).cell? ⟨bx, 26 + k, none⟩ = z9.cell? ⟨bx, 26 + k, none⟩ from rfl, cx]; rfl, fz⟩
          have lbY : Hid (∀ m, LB (z9.drewN m) (some ⟨g, o, none⟩) l) := fun m => hlS.out.below (below_drewN Y10.out.low)
          clear hVL h48 h49 h50
          go_upto_region 29 with (fail)
          refine region_class_tail 17 (fun u => ∃ n, u = z9.drewN n) (by kernel_rfl) (by kernel_rfl) ⟨1, rfl⟩ ?_
          dsimp only [List.take, List.drop]
          repeat (go_big_quiet_step ((go_at_call 26; exact Calls.quiet_of_same (hG46.out _ (lbY.out _)))))
          refine wpQuiet_nil ?_
          rintro _ ⟨nq, rfl⟩
          refine wpList_store_mid rfl 28 (.tmp 161) (.tmp 160) rfl bx 26 #[.int .i64 (VL : Int), .int .i64 (a48 : Int), .bool q49, .int .i64 (a50 : Int)] rfl rfl (hth.out nq) (by kernel_rfl) (by kernel_rfl) ?_
          have Yr : Hid (LdJ w l bx 30 ((z9.drewN nq).setCells bx 26 (#[.int .i64 (VL : Int), .int .i64 (a48 : Int), .bool q49, .int .i64 (a50 : Int)] : Array Value).toList)) := HR.out nq
          generalize ((z9.drewN nq).setCells bx 26 (#[.int .i64 (VL : Int), .int .i64 (a48 : Int), .bool q49, .int .i64 (a50 : Int)] : Array Value).toList) = zr at Yr ⊢
          clear HR hth lbY p48 p49 p50 ib48 ib49 ib50 hq49 i48 i49 i50 Y10
          go_upto_region 30 with (fail)
          have p := cell'.out zr Yr.out.low 51 (by have := h63'.out; omega)
          obtain ⟨u10, hu10⟩ : ∃ z, (l.getD 51 0).toNat = z := ⟨_, rfl⟩
          rw [hu10] at p
          have iu : (u10 : Int) < 256 := by have := UInt8.toNat_lt (l.getD 51 0); omega
          have ib := fun v => idxB .i64 g o n cap 51 v (by have := h63'.out; omega)
          simp only [Int.cast_ofNat_Int] at ib
          obtain ⟨⟨x, cx⟩, fz⟩ := Yr.out.cell 30 (by decide)
          have Y11 : Hid (LdJ w l bx 31 (zr.setCell ⟨bx, 30, none⟩ (.int .u8 (u10 : Int)))) := Yr.out.put _ (by rw [← hu10]; rfl) (by decide)
          clear hu10
          go_upto_region 31 with (fail)
          generalize (zr.setCell ⟨bx, 30, none⟩ (.int .u8 (u10 : Int))) = z10 at Y11 ⊢
          clear p ib cx fz iu Yr
          have p := cell'.out z10 Y11.out.low 52 (by have := h63'.out; omega)
          obtain ⟨u11, hu11⟩ : ∃ z, (l.getD 52 0).toNat = z := ⟨_, rfl⟩
          rw [hu11] at p
          have iu : (u11 : Int) < 256 := by have := UInt8.toNat_lt (l.getD 52 0); omega
          have ib := fun v => idxB .i64 g o n cap 52 v (by have := h63'.out; omega)
          simp only [Int.cast_ofNat_Int] at ib
          obtain ⟨⟨x, cx⟩, fz⟩ := Y11.out.cell 31 (by decide)
          obtain ⟨q11, hq11⟩ : ∃ z, ((u11 : Int) == 1) = z := ⟨_, rfl⟩
          have Y12 : Hid (LdJ w l bx 32 (z10.setCell ⟨bx, 31, none⟩ (.bool q11))) := Y11.out.put _ (by rw [← hq11, ← hu11, one8]; rfl) (by decide)
          clear hu11
          go_upto_region 32 with (fail)
          generalize (z10.setCell ⟨bx, 31, none⟩ (.bool q11)) = z11 at Y12 ⊢
          clear p ib cx fz iu Y11 hq11
          obtain ⟨M, hM, hD⟩ := Y12.out.box
          obtain ⟨VC, hVC⟩ : ∃ z, numB l 53 8 = z := ⟨_, rfl⟩
          have hVC6 : VC < 18446744073709551616 := by rw [← hVC]; exact num_lt l _ 8
          have iVC : (VC : Int) < 18446744073709551616 := by omega
          rw [hVC] at hG53
          have Z0 : Hid (LdK w l bx M z11) := ⟨hM, hD, Y12.out.res, Y12.out.low, Y12.out.lt⟩
          have c34 := hM.c 34 _ (Array.getElem?_eq_getElem (show 34 < M.size by rw [hD.1]; decide))
          have f34 := hM.fz 34
          have Z1 : Hid (LdK w l bx (M.setIfInBounds 34 (.int .u64 (VC : Int))) (z11.setCell ⟨bx, 34, none⟩ (.int .u64 (VC : Int)))) := Z0.out.put 34 _ (by decide)
          go_upto_region 33 with (go_at_call 26; refine (hG53.out z11 Z0.out.low).mono ?_; rintro e z11 ⟨rfl, rfl⟩)
          generalize (z11.setCell ⟨bx, 34, none⟩ (.int .u64 (VC : Int))) = x0 at Z1 ⊢
          clear c34 f34 hM Y12 Z0
          go_wp2_with (go_at_call 28; refine (hBa.out x0 Z1.out.low).mono ?_; rintro e x1 ⟨rfl, H⟩; have Z2 : Hid (LdK w l bx (M.setIfInBounds 34 (.int .u64 (VC : Int))) x1 ∧ Bx x1 x0.heap.size (rowL cB (bdOf l).ram).toArray 5 ∧ bx < x0.heap.size) := ⟨Z1.out.below H.out.2, H.out.1, heap_lt Z1.out.box⟩; clear H; refine stopAt ?_)
          refine Stop.go ?_
          generalize x0.heap.size = gR at Z2 ⊢
          have c32 := Z2.out.1.box.c 32 _ (Array.getElem?_eq_getElem (show 32 < (M.setIfInBounds 34 (.int .u64 (VC : Int))).size by rw [Z2.out.1.don.1]; decide))
          have f32 := Z2.out.1.box.fz 32
          have Z3 : Hid (LdK w l bx ((M.setIfInBounds 34 (.int .u64 (VC : Int))).setIfInBounds 32 (.slice (some ⟨gR, 0, none⟩) RN RN)) (x1.setCell ⟨bx, 32, none⟩ (.slice (some ⟨gR, 0, none⟩) RN RN)) ∧ Bx (x1.setCell ⟨bx, 32, none⟩ (.slice (some ⟨gR, 0, none⟩) RN RN)) gR (rowL cB (bdOf l).ram).toArray 5) := ⟨Z2.out.1.put 32 _ (by decide), (heap_setCell_other x1 ⟨bx, 32, none⟩ gR _ (Nat.ne_of_gt Z2.out.2.2)).trans Z2.out.2.1⟩
          have hgR : Hid (bx < gR) := Z2.out.2.2
          go_upto_region 34 with (fail)
          generalize (x1.setCell ⟨bx, 32, none⟩ (.slice (some ⟨gR, 0, none⟩) RN RN)) = x2 at Z3 ⊢
          clear c32 f32 Z1 Z2
          go_wp2_with (go_at_call 28; refine (hBb.out x2 Z3.out.1.low).mono ?_; rintro e x3 ⟨rfl, H⟩; have Z4 : Hid (LdK w l bx ((M.setIfInBounds 34 (.int .u64 (VC : Int))).setIfInBounds 32 (.slice (some ⟨gR, 0, none⟩) RN RN)) x3 ∧ Bx x3 gR (rowL cB (bdOf l).ram).toArray 5 ∧ Bx x3 x2.heap.size (rowL cB (bdOf l).rom).toArray 5 ∧ bx < x2.heap.size ∧ gR < x2.heap.size) := ⟨Z3.out.1.below H.out.2, (H.out.2.block _ (heap_lt Z3.out.2)).trans Z3.out.2, H.out.1, heap_lt Z3.out.1.box, heap_lt Z3.out.2⟩; clear H; refine stopAt ?_)
          refine Stop.go ?_
          generalize x2.heap.size = gO at Z4 ⊢
          have c33 := Z4.out.1.box.c 33 _ (Array.getElem?_eq_getElem (show 33 < ((M.setIfInBounds 34 (.int .u64 (VC : Int))).setIfInBounds 32 (.slice (some ⟨gR, 0, none⟩) RN RN)).size by rw [Z4.out.1.don.1]; decide))
          have f33 := Z4.out.1.box.fz 33
          have eM : ((M.setIfInBounds 34 (.int .u64 (VC : Int))).setIfInBounds 32 (.slice (some ⟨gR, 0, none⟩) RN RN)).setIfInBounds 33 (.slice (some ⟨gO, 0, none⟩) 512 512) = bCs (bdOf l) (.slice (some ⟨gR, 0, none⟩) (bdOf l).ram.length (bdOf l).ram.length) (.slice (some ⟨gO, 0, none⟩) (bdOf l).rom.length (bdOf l).rom.length) := by
            rw [hlens.out.1, hlens.out.2, ← hVC]
            exact fin_eq hD _ _
          obtain ⟨MF, hMF⟩ : ∃ z, ((M.setIfInBounds 34 (.int .u64 (VC : Int))).setIfInBounds 32 (.slice (some ⟨gR, 0, none⟩) RN RN)).setIfInBounds 33 (.slice (some ⟨gO, 0, none⟩) 512 512) = z := ⟨_, rfl⟩
          have Z5 : Hid (Bx (x3.setCell ⟨bx, 33, none⟩ (.slice (some ⟨gO, 0, none⟩) 512 512)) bx MF 34 ∧ Bx (x3.setCell ⟨bx, 33, none⟩ (.slice (some ⟨gO, 0, none⟩) 512 512)) w.heap.size zBd 34 ∧ Below w.heap.size w (x3.setCell ⟨bx, 33, none⟩ (.slice (some ⟨gO, 0, none⟩) 512 512)) ∧ MOk w l MF (x3.setCell ⟨bx, 33, none⟩ (.slice (some ⟨gO, 0, none⟩) 512 512)) ∧ MF.size = 35 ∧ MF.all (·.oneCell') = true) := by
            have h5 := Z4.out.1.put 33 (.slice (some ⟨gO, 0, none⟩) 512 512) (by decide)
            have hlt := h5.lt
            have hg := hgR.out
            have hg2 := Z4.out.2.2.2.2
            have hmo : MOk w l MF (x3.setCell ⟨bx, 33, none⟩ (.slice (some ⟨gO, 0, none⟩) 512 512)) := ⟨gR, gO, by rw [← hMF]; exact eM, (heap_setCell_other x3 ⟨bx, 33, none⟩ gR _ (Nat.ne_of_gt hg)).trans Z4.out.2.1, (heap_setCell_other x3 ⟨bx, 33, none⟩ gO _ (Nat.ne_of_gt Z4.out.2.2.2.1)).trans Z4.out.2.2.1, by omega, by have := Z4.out.2.2.2.1; omega, by omega⟩
            rw [hMF] at h5
            exact ⟨h5.box, h5.res, h5.low, hmo, MOk.facts hmo⟩
          go_upto_region 35 with (fail)
          generalize (x3.setCell ⟨bx, 33, none⟩ (.slice (some ⟨gO, 0, none⟩) 512 512)) = x4 at Z5 ⊢
          clear c33 f33 eM hMF Z4 Z3
          obtain ⟨E, hE⟩ : ∃ z, chkB (bdOf l) = z := ⟨_, rfl⟩
          rw [hE] at hC
          by_cases hE0 : E = 0
          · have qE : (E != 0) = false := by rw [bne_eq_false_iff_eq]; exact hE0
            go_wp2_with (first
              | ((with_reducible refine at_load rtBd bx MF ?_ ?_ (.tmp 7) ?_ ?_ ?_ ?_); exact Z6.out.1; exact Z5.out.2.2.2.2.1; kernel_rfl; rfl; rfl)
              | ((with_reducible refine at_load rtBd bx MF ?_ ?_ (.tmp 7) ?_ ?_ ?_ ?_); exact Z5.out.1; exact Z5.out.2.2.2.2.1; kernel_rfl; rfl; rfl)
              | (go_at_call 19; refine (hC.out x4 MF Z5.out.2.2.1 Z5.out.2.2.2.1).mono ?_; rintro e x5 ⟨rfl, H⟩; have Z6 : Hid (Bx x5 bx MF 34 ∧ Bx x5 w.heap.size zBd 34 ∧ Below w.heap.size w x5 ∧ MOk w l MF x5) := ⟨(H.block _ (heap_lt Z5.out.1)).trans Z5.out.1, (H.block _ (heap_lt Z5.out.2.1)).trans Z5.out.2.1, Z5.out.2.2.1.trans (H.mono Z5.out.2.2.1.size), Z5.out.2.2.2.1.below H⟩; clear H)
              | ((with_reducible refine at_st rtBd w.heap.size zBd MF ?_ ?_ ?_ ?_ (.tmp 2) (.tmp 195) ?_ ?_ ?_ ?_ ?_); exact Z6.out.2.1; rfl; exact Z5.out.2.2.2.2.1; exact Z5.out.2.2.2.2.2; rfl; rfl; rfl; rfl; intro x9 h9; have Z9 : Hid (Bx x9 w.heap.size MF 34 ∧ Below w.heap.size w x9 ∧ MOk w l MF x9) := ⟨h9.out.1, Z6.out.2.2.1.trans (h9.out.2.1 _ (Nat.le_refl _)), Z6.out.2.2.2.put Z6.out.2.1 h9.out.2.2⟩; clear h9))
            exact ret_cell2 rtBd rfl rfl rfl Z9.out.1 Z5.out.2.2.2.2.1 rfl (.inr (.inr (.inr ⟨hff, hss, hE.trans hE0, MF, rfl, Z9.out.2.1, Z9.out.2.2⟩)))
          · have qE : (E != 0) = true := by rw [bne_iff_ne]; exact hE0
            go_wp2_with (first
              | ((with_reducible refine at_load rtBd bx MF ?_ ?_ (.tmp 7) ?_ ?_ ?_ ?_); exact Z5.out.1; exact Z5.out.2.2.2.2.1; kernel_rfl; rfl; rfl)
              | (go_at_call 19; refine (hC.out x4 MF Z5.out.2.2.1 Z5.out.2.2.2.1).mono ?_; rintro e x5 ⟨rfl, H⟩; have Z6 : Hid (Bx x5 w.heap.size zBd 34 ∧ Below w.heap.size w x5) := ⟨(H.block _ (heap_lt Z5.out.2.1)).trans Z5.out.2.1, Z5.out.2.2.1.trans (H.mono Z5.out.2.2.1.size)⟩; clear H)
              | ((with_reducible refine at_st rtBd w.heap.size zBd zBd ?_ ?_ ?_ ?_ (.tmp 2) (.tmp 194) ?_ ?_ ?_ ?_ ?_); exact Z6.out.1; rfl; rfl; exact zBd_one; rfl; rfl; rfl; rfl; intro x9 h9; have Z9 : Hid (Bx x9 w.heap.size zBd 34 ∧ Below w.heap.size w x9) := ⟨h9.out.1, Z6.out.2.trans (h9.out.2.1 _ (Nat.le_refl _))⟩; clear h9))
            exact ret_cell2 rtBd rfl rfl rfl Z9.out.1 rfl rfl (.inr (.inr (.inl ⟨hff, hss, by rw [hE]; exact hE0, rfl, Z9.out.2⟩)))
theorem rload_any (w : World) (sp : Option Addr) (cap : Nat) (l : List UInt8) (hl : Hid (LB w sp l)) (hn : l.length ≤ 4000000000) (hcap : l.length ≤ cap) : Calls Tryz.prog 12 #[.slice sp l.length cap] w (LdE w l) := by
  rcases hf : formB l with _ | _
  · exact (rload_form w sp cap l hl hn hf).mono fun e w' k => .inl ⟨hf, k.1, k.2⟩
  · rcases hs : sumOk l with _ | _
    · exact (rload_sum w sp cap l hl hn hcap hf hs).mono fun e w' k => .inr (.inl ⟨hf, hs, k.1, k.2⟩)
    · refine rload_go w sp cap l hl hn hcap hf hs fun y M hy hM => chk8_any y M (bdOf l) hM.bl ?_ ?_
      · have h2 : (bdOf l).ram.length ≤ l.length := by show ((l.drop 63).take (ramN l)).length ≤ _; rw [List.length_take, List.length_drop]; omega
        omega
      · have h2 : (bdOf l).rom.length ≤ l.length := by show ((l.drop (63 + ramN l)).take 512).length ≤ _; rw [List.length_take, List.length_drop]; omega
        omega
end Go.Proofs.YtehnhjdjjalifaaGreatDoor
