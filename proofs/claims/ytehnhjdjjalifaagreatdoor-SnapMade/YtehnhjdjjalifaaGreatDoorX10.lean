/- The document's own: Load, what it refuses for its sum. -/
import Derived.Test.YtehnhjdjjalifaaGreatDoorX9
namespace Go.Proofs.YtehnhjdjjalifaaGreatDoor
open Go Go.RowKit
set_option linter.unusedVariables false
set_option maxHeartbeats 8000000
set_option maxRecDepth 20000

theorem form_parts {l : List UInt8} (h : formB l = true) : 63 ≤ l.length ∧ l.take 4 = [86, 83, 80, 49] ∧ l.length = 583 + ramN l ∧ ∀ i, i < 5 → (l.getD (flN i) 0).toNat ≤ 1 := by
  unfold formB at h
  simp only [Bool.and_eq_true, Nat.ble_eq, beq_iff_eq, List.all_eq_true] at h
  obtain ⟨h1, h2, h3, h4⟩ := h
  refine ⟨h1, h2, h3, fun i hi => ?_⟩
  have : i = 0 ∨ i = 1 ∨ i = 2 ∨ i = 3 ∨ i = 4 := by omega
  rcases this with rfl | rfl | rfl | rfl | rfl
  · exact h4 37 (by simp)
  · exact h4 41 (by simp)
  · exact h4 42 (by simp)
  · exact h4 49 (by simp)
  · exact h4 52 (by simp)
theorem slLow (g o n cap h : Nat) (hc : h ≤ cap) (v : World) : (Instr.sliceAt 31 (.slice (some ⟨g, o, none⟩) n cap) none (some (.int .i64 (h : Int))) none).run Tryz.prog v = .ok (.slice (some ⟨g, o, none⟩) h cap) v := by
  have hu : Tryz.prog.underlying 31 = some (.slice (Tryz.prog.elem 31)) := by kernel_rfl
  rw [run_sliceAt_slice v _ _ _ _ _ hu, run_slice_h v _ _ _ _ hu .i64 (h : Int) (by omega) (by omega)]
  have hz : ∀ v, (sizeOf (Tryz.prog.elem 31)).run Tryz.prog v = .ok 1 v := fun v => by kernel_rfl
  rw [hz]
  simp [Result.andThen_ok, sliced, Addr.add_lit]
theorem rload_sum (w : World) (sp : Option Addr) (cap : Nat) (l : List UInt8) (hl : Hid (LB w sp l)) (hn : l.length ≤ 4000000000) (hcap : l.length ≤ cap) (hf : formB l = true) (hs : sumOk l = false) :
    Calls Tryz.prog 12 #[.slice sp l.length cap] w fun e w' => e = .returned (.tuple #[.agg zBd, .int .i64 211]) ∧ Below w.heap.size w w' := by
  obtain ⟨f1, f2, f3, f4⟩ := form_parts hf
  obtain ⟨n, hn'⟩ : ∃ n, l.length = n := ⟨_, rfl⟩
  have hnn : Hid (l.length = n) := hn'
  rw [hn'] at hn f1 f3 hcap ⊢
  have ni : (n : Int) ≤ 4000000000 := by omega
  have d63 : decide ((n : Int) < 63) = false := decide_eq_false (by omega)
  obtain ⟨g, o, rfl⟩ := lb_some hl.out (by omega)
  have cell : ∀ y, Below w.heap.size w y → ∀ j, j < n → y.cell? ⟨g, o + j, none⟩ = some (.int .u8 ((l.getD j 0).toNat : Int)) := fun y hy j hj => lb_at (hl.out.below hy) j (by rw [hn']; exact hj)
  have cell' : Hid (∀ y, Below w.heap.size w y → ∀ j, j < n → y.cell? ⟨g, o + j, none⟩ = some (.int .u8 ((l.getD j 0).toNat : Int))) := cell
  have h63' : Hid (63 ≤ n) := f1
  have hfl : Hid (∀ i, i < 5 → (l.getD (flN i) 0).toNat ≤ 1) := f4
  have ix0 : ∀ v, (Instr.indexAt 31 (.slice (some ⟨g, o, none⟩) n cap) (.int .i64 0)).run Tryz.prog v = .ok (.pointer (some ⟨g, o, none⟩)) v := fun v => idxB .i64 g o n cap 0 v (by omega)
  have ix1 : ∀ v, (Instr.indexAt 31 (.slice (some ⟨g, o, none⟩) n cap) (.int .i64 1)).run Tryz.prog v = .ok (.pointer (some ⟨g, o + 1, none⟩)) v := fun v => idxB .i64 g o n cap 1 v (by omega)
  have ix2 : ∀ v, (Instr.indexAt 31 (.slice (some ⟨g, o, none⟩) n cap) (.int .i64 2)).run Tryz.prog v = .ok (.pointer (some ⟨g, o + 2, none⟩)) v := fun v => idxB .i64 g o n cap 2 v (by omega)
  have ix3 : ∀ v, (Instr.indexAt 31 (.slice (some ⟨g, o, none⟩) n cap) (.int .i64 3)).run Tryz.prog v = .ok (.pointer (some ⟨g, o + 3, none⟩)) v := fun v => idxB .i64 g o n cap 3 v (by omega)
  have hb0 : (l.getD 0 0).toNat = 86 := by
    have e := congrArg (fun m : List UInt8 => m[0]?) f2
    simp only [List.getElem?_take] at e
    rw [if_pos (by decide)] at e
    rw [List.getD_eq_getElem?_getD, e]
    rfl
  have hb1 : (l.getD 1 0).toNat = 83 := by
    have e := congrArg (fun m : List UInt8 => m[1]?) f2
    simp only [List.getElem?_take] at e
    rw [if_pos (by decide)] at e
    rw [List.getD_eq_getElem?_getD, e]
    rfl
  have hb2 : (l.getD 2 0).toNat = 80 := by
    have e := congrArg (fun m : List UInt8 => m[2]?) f2
    simp only [List.getElem?_take] at e
    rw [if_pos (by decide)] at e
    rw [List.getD_eq_getElem?_getD, e]
    rfl
  have hb3 : (l.getD 3 0).toNat = 49 := by
    have e := congrArg (fun m : List UInt8 => m[3]?) f2
    simp only [List.getElem?_take] at e
    rw [if_pos (by decide)] at e
    rw [List.getD_eq_getElem?_getD, e]
    rfl
  have hx : Hid (∀ y, Below w.heap.size w y → y.cell? ⟨g, o, none⟩ = some (.int .u8 86) ∧ y.cell? ⟨g, o + 1, none⟩ = some (.int .u8 83) ∧ y.cell? ⟨g, o + 2, none⟩ = some (.int .u8 80) ∧ y.cell? ⟨g, o + 3, none⟩ = some (.int .u8 49)) := fun y hy => by
    have c0 := cell y hy 0 (by omega)
    rw [hb0] at c0
    have c1 := cell y hy 1 (by omega)
    rw [hb1] at c1
    have c2 := cell y hy 2 (by omega)
    rw [hb2] at c2
    have c3 := cell y hy 3 (by omega)
    rw [hb3] at c3
    exact ⟨c0, c1, c2, c3⟩
  obtain ⟨RN, hRN⟩ : ∃ r, ramN l = r := ⟨_, rfl⟩
  have hG : Hid (∀ y, Below w.heap.size w y → Calls Tryz.prog 26 #[.slice (some ⟨g, o, none⟩) n cap, .int .i64 61, .int .i64 2] y fun e w' => e = .returned (.int .u64 (RN : Int)) ∧ Below y.heap.size y w') := fun y hy => by
    have := rget_any y (some ⟨g, o, none⟩) n cap l (hl.out.below hy) hnn (by omega) 61 2 (by decide) (by have := h63'.out; omega)
    rw [← hRN]
    exact this
  rw [hRN] at f3
  have hR6 : RN < 65536 := by rw [← hRN]; exact ramN_lt l
  have iR : (RN : Int) < 65536 := by omega
  have w1 : IntKind.i64.wrap (63 + (RN : Int)) = 63 + (RN : Int) := by rw [IntKind.wrap_i64]; omega
  have w2 : IntKind.i64.wrap (63 + (RN : Int) + 520) = 63 + (RN : Int) + 520 := by rw [IntKind.wrap_i64]; omega
  have ql : ((n : Int) != 63 + (RN : Int) + 520) = false := by rw [bne_eq_false_iff_eq]; omega
  obtain ⟨m, hm⟩ : ∃ m, n = m + 8 := ⟨n - 8, by omega⟩
  have wm : (n : Int) - 8 = (m : Int) := by omega
  have wm2 : IntKind.i64.wrap ((n : Int) - 8) = (m : Int) := by rw [IntKind.wrap_i64]; omega
  have hsl := fun v => slLow g o n cap m (by omega) v
  obtain ⟨S1, hS1⟩ : ∃ S, sumB (l.take m) = S := ⟨_, rfl⟩
  obtain ⟨S2, hS2⟩ : ∃ S, numB l m 8 = S := ⟨_, rfl⟩
  have hSu : Hid (∀ y, Below w.heap.size w y → Calls Tryz.prog 14 #[.slice (some ⟨g, o, none⟩) m cap] y fun e w' => e = .returned (.int .u64 (S1 : Int)) ∧ Below y.heap.size y w') := fun y hy => by
    have hlt : LB y (some ⟨g, o, none⟩) (l.take m) := fun j a hj => by
      rw [List.getElem?_take] at hj
      split at hj
      · exact (hl.out.below hy) j a hj
      · cases hj
    have := rsum_any y (some ⟨g, o, none⟩) m cap (l.take m) hlt (show (l.take m).length = m by rw [List.length_take, hn']; omega) (by omega)
    rw [hS1] at this
    exact this
  have hG2 : Hid (∀ y, Below w.heap.size w y → Calls Tryz.prog 26 #[.slice (some ⟨g, o, none⟩) n cap, .int .i64 (m : Int), .int .i64 8] y fun e w' => e = .returned (.int .u64 (S2 : Int)) ∧ Below y.heap.size y w') := fun y hy => by
    have := rget_any y (some ⟨g, o, none⟩) n cap l (hl.out.below hy) hnn (by omega) m 8 (by decide) (by omega)
    rw [← hS2]
    exact this
  have qs : ((S1 : Int) != (S2 : Int)) = true := by
    rw [bne_iff_ne]
    intro e
    unfold sumOk at hs
    rw [hn', show n - 8 = m from by omega, hS1, hS2, show S1 = S2 from by omega] at hs
    simp at hs
  clear hf hs f1 f2 f3 f4 hn hn' hb0 hb1 hb2 hb3 hRN hR6 hm hS1 hS2 cell hcap
  go_enter Tryz.func12, Tryz.ntmps12
  go_wp2_with (first
    | ((with_reducible refine gen_world (w.alloc (.cells #[.int .u16 0, .int .u16 0, .int .u16 0, .int .u16 0, .int .u16 0, .int .u16 0, .int .u16 0, .int .u16 0, .int .u16 0, .int .u16 0, .int .u16 0, .int .u16 0, .int .u16 0, .int .u16 0, .int .u16 0, .int .u16 0, .int .u8 0, .bool false, .int .u8 0, .int .u8 0, .int .u8 0, .bool false, .bool false, .int .u8 0, .int .u8 0, .int .u8 0, .int .i64 0, .int .i64 0, .bool false, .int .i64 0, .int .u8 0, .bool false, .slice none 0 0, .slice none 0 0, .int .u64 0] 34)) (Fm w [(w.heap.size, zBd, 34)]) ?_ ?_); exact Fm.one w _ _; intro y0 K0; obtain ⟨p0, p1, p2, p3⟩ := hx.out _ K0.out.low)
    | (go_at_call 26; refine (hG.out _ K0.out.low).mono ?_; rintro e y1 ⟨rfl, H1⟩; have K1 : Hid (Fm w [(w.heap.size, zBd, 34)] y1) := K0.out.below H1; clear H1 hG)
    | (go_at_call 27; refine (flags_any y1).mono ?_; rintro e y2 ⟨rfl, H2⟩; have K2 : Hid (Fm w [(w.heap.size, zBd, 34)] y2 ∧ Bx y2 y1.heap.size flC 3) := ⟨K1.out.below H2.out.2, H2.out.1⟩; clear H2))
  generalize y1.heap.size = gf at K2 ⊢
  go_loopw [6] (fun t wz => ∃ (i : Nat), y2 = wz ∧ t = .int .i64 (i : Int) ∧ Hid (i ≤ 5)) (fun t _ => (5 - intOf t).toNat)
  case atStart => exact ⟨0, rfl, rfl, Nat.zero_le _⟩
  case round =>
    obtain ⟨i, rfl, rfl, J⟩ := hrel
    by_cases hlt : i < 5
    · have cf := K2.out.2.c i _ (flC_at i hlt)
      have hfi : flN i < 63 := by
        have : i = 0 ∨ i = 1 ∨ i = 2 ∨ i = 3 ∨ i = 4 := by omega
        rcases this with rfl | rfl | rfl | rfl | rfl <;> decide
      have hfn : flN i < n := by have := h63'.out; omega
      have cb := cell'.out _ K2.out.1.low (flN i) hfn
      have jf : ∀ v, (Instr.indexAt 45 (.slice (some ⟨gf, 0, none⟩) 5 5) (.int .i64 (i : Int))).run Tryz.prog v = .ok (.pointer (some ⟨gf, i, none⟩)) v := fun v => by
        have := idxP (P := Tryz.prog) (g := gf) (off := 0) (len := 5) (cap := 5) Tryz.underlying45 (s := 1) (by kernel_rfl) .i64 i v hlt
        rw [Nat.mul_one, Nat.zero_add] at this
        exact this
      have jb := fun v => idxB .i64 g o n cap (flN i) v hfn
      have hii : (i : Int) < 5 := by omega
      have hlt' : Hid (i < 5) := hlt
      have hv := hfl.out i hlt
      have dv : decide ((1 : Int) < ((l.getD (flN i) 0).toNat : Int)) = false := decide_eq_false (by omega)
      generalize ((l.getD (flN i) 0).toNat : Int) = v at cb dv
      clear hv
      generalize flN i = fi at cf cb jb hfi hfn
      clear hlt J hfi hfn
      go_wp2
      go_roundw
      case rel => exact ⟨i + 1, by simp, by simp, hlt'.out⟩
      case measure => have := hlt'.out; simp [intOf]; omega
    · have hie : i = 5 := by have := J.out; omega
      subst hie
      clear hlt J
      go_wp2_with (first
        | (go_at_call 14; refine (hSu.out _ K2.out.1.low).mono ?_; rintro e y3 ⟨rfl, H3⟩; have K3 : Hid (Fm w [(w.heap.size, zBd, 34)] y3) := K2.out.1.below H3; clear H3 hSu)
        | (go_at_call 26; refine (hG2.out _ K3.out.low).mono ?_; rintro e y4 ⟨rfl, H4⟩; have K4 : Hid (Fm w [(w.heap.size, zBd, 34)] y4) := K3.out.below H4; clear H4 hG2)
        | ((with_reducible refine at_st rtBd w.heap.size zBd zBd ?_ ?_ ?_ ?_ (.tmp 2) (.tmp 76) ?_ ?_ ?_ ?_ ?_); exact K4.out.bx 0 _ _ _ rfl; rfl; rfl; exact zBd_one; rfl; rfl; rfl; rfl; intro y9 h9; have K9 : Hid (Fm w [(w.heap.size, zBd, 34)] y9) := K4.out.put 0 _ _ _ _ rfl h9.out; clear h9))
      exact ret_cell2 rtBd rfl rfl rfl (K9.out.bx 0 _ _ _ rfl) rfl rfl ⟨rfl, K9.out.low⟩
end Go.Proofs.YtehnhjdjjalifaaGreatDoor
