/- The program's own: the order at PC. -/
import Derived.Test.YtfkifppadngmdaaG25
import Derived.Test.YtfkifppadngmdaaP7
import Derived.Deep.DeepCutAuto
namespace Go.Proofs.Ytfkifppadngmdaa
open Go Go.RowKit Go.Shelf
set_option linter.unusedVariables false
set_option maxHeartbeats 1000000
set_option maxRecDepth 20000

theorem Fm.add2 {w y0 y : World} {l : List (Nat × Array Value × TypeId)} (h : Fm w l y) {b : Nat} {cs : Array Value} {t : TypeId} (hb : y0.heap.size ≤ b) (hl : ∀ (i q : Nat) (c : Array Value) (u : TypeId), l[i]? = some (q, c, u) → q < y0.heap.size) (hw : w.heap.size ≤ y0.heap.size) (hx : Bx y b cs t) : Fm w (l ++ [(b, cs, t)]) y := by
  have key : ∀ (i q : Nat) (cs' : Array Value) (t' : TypeId), (l ++ [(b, cs, t)])[i]? = some (q, cs', t') → l[i]? = some (q, cs', t') ∧ i < l.length ∨ i = l.length ∧ q = b ∧ cs' = cs ∧ t' = t := by
    intro i q cs' t' e
    rcases Nat.lt_or_ge i l.length with hi | hi
    · rw [List.getElem?_append_left hi] at e
      exact .inl ⟨e, hi⟩
    · rw [List.getElem?_append_right hi] at e
      rcases Nat.eq_or_lt_of_le hi with h0 | h0
      · rw [← h0, Nat.sub_self] at e
        simp at e
        exact .inr ⟨h0.symm, e.1.symm, e.2.1.symm, e.2.2.symm⟩
      · rw [List.getElem?_eq_none (by simp; omega)] at e
        cases e
  refine ⟨fun i q cs' t' e => ?_, fun i q cs' t' e => ?_, fun i j q c1 c2 t1 t2 e1 e2 => ?_, h.low⟩
  · rcases key i q cs' t' e with ⟨k', _⟩ | ⟨_, rfl, rfl, rfl⟩
    · exact h.get i q cs' t' k'
    · exact hx
  · rcases key i q cs' t' e with ⟨k', _⟩ | ⟨_, rfl, rfl, rfl⟩
    · exact h.ge i q cs' t' k'
    · omega
  · rcases key i q c1 t1 e1 with ⟨k1, l1⟩ | ⟨k1, kb, _⟩ <;> rcases key j q c2 t2 e2 with ⟨k2, l2⟩ | ⟨k2, kb2, _⟩
    · exact h.ne i j q c1 c2 t1 t2 k1 k2
    · exact absurd (hl i q c1 t1 k1) (by omega)
    · exact absurd (hl j q c2 t2 k2) (by omega)
    · omega
theorem Fm.lts {w y : World} {l : List (Nat × Array Value × TypeId)} (h : Fm w l y) : ∀ (i q : Nat) (c : Array Value) (u : TypeId), l[i]? = some (q, c, u) → q < y.heap.size := fun i q c u e => heap_lt (h.get i q c u e)
theorem at_al {ops : Array Oper} {o : Oper} {a : Act} {w : World} {Q : Exit → Act → World → Prop} {rest : List Oper} (hg : o.guard = none) (ho : o.op = .alloc 49) (k : wpList Try.prog ops Q rest (a.put o.dst (.pointer (some ⟨w.heap.size, 0, none⟩))) (w.alloc (.cells #[.int .u8 0, .int .u8 0, .int .u8 0, .int .u8 0, .int .u8 0, .int .u16 0] 49))) : wpList Try.prog ops Q (o :: rest) a w := by
  refine wpList_plain hg fun K hK => ?_
  have hr : (execOp a.eval o).run Try.prog w = .ok (.value (.pointer (some ⟨w.heap.size, 0, none⟩))) (w.alloc (.cells #[.int .u8 0, .int .u8 0, .int .u8 0, .int .u8 0, .int .u8 0, .int .u16 0] 49)) := by
    unfold execOp
    simp only [ho]
    kernel_rfl
  unfold Oper.wp
  rw [hr]
  exact hK _ _ k
theorem next_bad (w : World) (C : Array Value) (g : Gm) (hg : Hid (GL w C g)) (hm : Hid (g.may = false)) :
    Calls Try.prog 14 #[.agg C] w fun e w' => e = .returned (.tuple #[.agg (o6 od0), .int .u8 0]) ∧ Below w.heap.size w w' := by
  have gC : Hid (C.size = 23) := hg.out.size.1
  obtain ⟨OZ, hOZ⟩ : ∃ x : Array Value, Hid (x = #[.int .u8 0, .int .u8 0, .int .u8 0, .int .u8 0, .int .u8 0, .int .u16 0]) := ⟨_, (rfl : (#[.int .u8 0, .int .u8 0, .int .u8 0, .int .u8 0, .int .u8 0, .int .u16 0] : Array Value) = _)⟩
  have hOZ' : Hid (OZ.size = 6) := by show _ = _; rw [hOZ.out]; rfl
  go_enter Try.func14, Try.ntmps14
  go_wp2_with (first
      | ((with_reducible refine gen_world ((w.alloc (.cells C 29)).alloc (.cells #[.int .u8 0, .int .u8 0, .int .u8 0, .int .u8 0, .int .u8 0, .int .u16 0] 49)) (Fm w [(w.heap.size, C, 29), (w.heap.size + 1, OZ, 49)]) ?_ ?_); (rw [hOZ.out]; exact Fm.two w _ _ _ _); intro y0 K0)
      | ((with_reducible refine at_load rtG w.heap.size C ?_ ?_ (.tmp 1) ?_ ?_ ?_ ?_); exact K0.out.bx 0 _ _ _ rfl; exact gC.out; kernel_rfl; rfl; rfl)
      | (go_at_call 12; refine (check_gl y0 C g (hg.out.below K0.out.low)).mono ?_; rintro e y1 ⟨rfl, H1⟩; have K1 : Hid (Fm w [(w.heap.size, C, 29), (w.heap.size + 1, OZ, 49)] y1) := K0.out.below H1; rw [hm.out])
      | ((with_reducible refine at_bu #[] [] #[.int .u8 0, .int .u8 0, .int .u8 0, .int .u8 0, .int .u8 0, .int .u16 0] ?_ ?_ ?_ builtO0 ?_); kernel_rfl; rfl; rfl)
      | ((with_reducible refine at_st rtO (w.heap.size + 1) OZ #[.int .u8 0, .int .u8 0, .int .u8 0, .int .u8 0, .int .u8 0, .int .u16 0] ?_ ?_ ?_ ?_ (.tmp 2) (.tmp 11) ?_ ?_ ?_ ?_ ?_); exact K1.out.bx 1 _ _ _ rfl; exact hOZ'.out; rfl; kernel_rfl; rfl; rfl; rfl; rfl; intro yE HE; have KE : Hid (Fm w [(w.heap.size, C, 29), (w.heap.size + 1, o6 od0, 49)] yE) := K1.out.put 1 _ _ _ _ rfl HE.out))
  exact ret_two rtO rfl rfl rfl (KE.out.bx 1 _ _ _ rfl) rfl rfl ⟨rfl, KE.out.low⟩
theorem next_out (w : World) (C : Array Value) (g : Gm) (hg : Hid (GL w C g)) (hm : Hid (g.may = true)) (hf : fitG g.pc 2 = false) :
    Calls Try.prog 14 #[.agg C] w fun e w' => e = .returned (.tuple #[.agg (o6 od0), .int .u8 7]) ∧ Below w.heap.size w w' := by
  have gC : Hid (C.size = 23) := hg.out.size.1
  obtain ⟨OZ, hOZ⟩ : ∃ x : Array Value, Hid (x = #[.int .u8 0, .int .u8 0, .int .u8 0, .int .u8 0, .int .u8 0, .int .u16 0]) := ⟨_, (rfl : (#[.int .u8 0, .int .u8 0, .int .u8 0, .int .u8 0, .int .u8 0, .int .u16 0] : Array Value) = _)⟩
  have hOZ' : Hid (OZ.size = 6) := by show _ = _; rw [hOZ.out]; rfl
  have hpl := fun y => places_any y g.pc 2 hg.out.2.pc (by decide) (by decide)
  rw [hf, if_neg (by decide)] at hpl
  have fC : Hid (C[17]? = some (.int .u16 (g.pc : Int))) := by
    obtain ⟨⟨sS, sP, sM, cS, cP, cM, hC, _⟩, _⟩ := hg.out
    rw [hC]
    exact rfl
  obtain ⟨p, hp⟩ : ∃ p, g.pc = p := ⟨_, rfl⟩
  rw [hp] at hpl fC
  clear hf hp
  go_enter Try.func14, Try.ntmps14
  go_wp2_with (first
      | ((with_reducible refine gen_world ((w.alloc (.cells C 29)).alloc (.cells #[.int .u8 0, .int .u8 0, .int .u8 0, .int .u8 0, .int .u8 0, .int .u16 0] 49)) (Fm w [(w.heap.size, C, 29), (w.heap.size + 1, OZ, 49)]) ?_ ?_); (rw [hOZ.out]; exact Fm.two w _ _ _ _); intro y0 K0)
      | ((with_reducible refine at_load rtG w.heap.size C ?_ ?_ (.tmp 1) ?_ ?_ ?_ ?_); exact K0.out.bx 0 _ _ _ rfl; exact gC.out; kernel_rfl; rfl; rfl)
      | (go_at_call 12; refine (check_gl y0 C g (hg.out.below K0.out.low)).mono ?_; rintro e y1 ⟨rfl, H1⟩; have K1 : Hid (Fm w [(w.heap.size, C, 29), (w.heap.size + 1, OZ, 49)] y1) := K0.out.below H1; rw [hm.out]; have c17 := (K1.out.bx 0 _ _ _ rfl).c 17 _ fC.out)
      | (go_at_call 17; refine (hpl y1).mono ?_; rintro e y2 ⟨rfl, e1⟩; replace e1 := e1.symm; subst e1)
      | ((with_reducible refine at_bu #[] [] #[.int .u8 0, .int .u8 0, .int .u8 0, .int .u8 0, .int .u8 0, .int .u16 0] ?_ ?_ ?_ builtO0 ?_); kernel_rfl; rfl; rfl)
      | ((with_reducible refine at_st rtO (w.heap.size + 1) OZ #[.int .u8 0, .int .u8 0, .int .u8 0, .int .u8 0, .int .u8 0, .int .u16 0] ?_ ?_ ?_ ?_ (.tmp 2) (.tmp 20) ?_ ?_ ?_ ?_ ?_); exact K1.out.bx 1 _ _ _ rfl; exact hOZ'.out; rfl; kernel_rfl; rfl; rfl; rfl; rfl; intro yE HE; have KE : Hid (Fm w [(w.heap.size, C, 29), (w.heap.size + 1, o6 od0, 49)] yE) := K1.out.put 1 _ _ _ _ rfl HE.out))
  exact ret_two rtO rfl rfl rfl (KE.out.bx 1 _ _ _ rfl) rfl rfl ⟨rfl, KE.out.low⟩
theorem next_none (w : World) (C : Array Value) (g : Gm) (hg : Hid (GL w C g)) (hm : Hid (g.may = true)) (hf : fitG g.pc 2 = true) (WD : Nat) (OD : Od) (hWD : wordG g = WD) (hOD : decO WD = OD) (hdb : Hid (decB WD = false)) :
    Calls Try.prog 14 #[.agg C] w fun e w' => e = .returned (.tuple #[.agg (o6 od0), .int .u8 4]) ∧ Below w.heap.size w w' := by
  have gC : Hid (C.size = 23) := hg.out.size.1
  obtain ⟨OZ, hOZ⟩ : ∃ x : Array Value, Hid (x = #[.int .u8 0, .int .u8 0, .int .u8 0, .int .u8 0, .int .u8 0, .int .u16 0]) := ⟨_, (rfl : (#[.int .u8 0, .int .u8 0, .int .u8 0, .int .u8 0, .int .u8 0, .int .u16 0] : Array Value) = _)⟩
  have hOZ' : Hid (OZ.size = 6) := by show _ = _; rw [hOZ.out]; rfl
  have hpl := fun y => places_any y g.pc 2 hg.out.2.pc (by decide) (by decide)
  rw [hf, if_pos rfl] at hpl
  have hf2 : 512 ≤ g.pc ∧ g.pc + 2 ≤ 3744 := by unfold fitG at hf; simpa using hf
  have hml := (may_iff.1 hm.out).2.1
  obtain ⟨⟨sS, sP, sM, cS, cP, cM, hC, h1, h2, h3⟩, ok⟩ := hg.out
  obtain ⟨gM, oM, rfl⟩ := lb_some h3 (by omega)
  have fC : Hid (C[17]? = some (.int .u16 (g.pc : Int)) ∧ C[22]? = some (.slice (some ⟨gM, oM, none⟩) 3232 cM)) := by rw [hC, hml]; exact ⟨rfl, rfl⟩
  obtain ⟨at_, hat⟩ : ∃ x, g.pc - 512 = x := ⟨_, rfl⟩
  obtain ⟨at1, hat1⟩ : ∃ x, at_ + 1 = x := ⟨_, rfl⟩
  have ca := lb_at h3 at_ (by omega)
  have cb := lb_at h3 at1 (by omega)
  obtain ⟨H, hH⟩ : ∃ x, (g.me.getD at_ 0).toNat = x := ⟨_, rfl⟩
  obtain ⟨L, hL⟩ : ∃ x, (g.me.getD at1 0).toNat = x := ⟨_, rfl⟩
  have lH := (g.me.getD at_ 0).toNat_lt
  have lL := (g.me.getD at1 0).toNat_lt
  rw [hH] at ca lH
  rw [hL] at cb lL
  have eWD : WD = H * 256 + L := by rw [← hWD]; unfold wordG; rw [show g.pc + 1 - 512 = at1 by omega, hat, hH, hL]
  have hdec := fun y => decode_any y WD (by omega)
  rw [hdb.out, hOD] at hdec
  obtain ⟨DB, hDB⟩ : ∃ x, x = false := ⟨_, rfl⟩
  rw [← hDB] at hdec
  obtain ⟨HH, hHH⟩ : ∃ x, H * 256 = x := ⟨_, rfl⟩
  have hsh : Op.shift .shl .u16 (H : Int) .u64 8 = pure (.int .u16 (HH : Int)) := by
    unfold Op.shift
    rw [if_neg (by decide)]
    simp only [IntKind.bits, show Int.toNat 8 = 8 from rfl, show Nat.min 8 16 = 8 from rfl]
    rw [IntKind.wrap_u16]
    congr 2
    show (H : Int) * 2 ^ 8 % 65536 = _
    omega
  have hor := orNN HH L (by omega) (by omega)
  have e3 : HH ||| L = WD := by
    rw [← hHH, eWD]
    have := Nat.two_pow_add_eq_or_of_lt (i := 8) (b := L) (by omega) H
    rw [show H * 256 = 2 ^ 8 * H by omega]
    exact this.symm
  rw [e3] at hor
  have ia1 := fun v => idxB .i64 gM oM 3232 cM at_ v (by omega)
  have ia2 := fun v => idxB .i64 gM oM 3232 cM at1 v (by omega)
  have ha1 : (at_ : Int) + 1 = (at1 : Int) := by omega
  rw [hat] at hpl
  obtain ⟨p, hp⟩ : ∃ p, g.pc = p := ⟨_, rfl⟩
  rw [hp] at hpl fC hf2
  have i1 : (at_ : Int) ≤ 3231 := by omega
  have i2 : (at1 : Int) ≤ 3231 := by omega
  have i3 : (p : Int) < 65536 := by omega
  have i4 : (H : Int) < 256 := by omega
  have i5 : (L : Int) < 256 := by omega
  have i6 : (HH : Int) < 65536 := by omega
  have cc0 : Hid (w.cell? ⟨gM, oM + at_, none⟩ = some (.int .u8 (H : Int)) ∧ w.cell? ⟨gM, oM + at1, none⟩ = some (.int .u8 (L : Int))) := ⟨ca, cb⟩
  clear hf hC h1 h2 h3 ok hml hat hat1 ca cb hH hL lH lL hWD eWD hOD hHH e3 hp hf2
  go_enter Try.func14, Try.ntmps14
  go_upto_region 6 with (first
      | ((with_reducible refine gen_world ((w.alloc (.cells C 29)).alloc (.cells #[.int .u8 0, .int .u8 0, .int .u8 0, .int .u8 0, .int .u8 0, .int .u16 0] 49)) (Fm w [(w.heap.size, C, 29), (w.heap.size + 1, OZ, 49)]) ?_ ?_); (rw [hOZ.out]; exact Fm.two w _ _ _ _); intro y0 K0)
      | ((with_reducible refine at_load rtG w.heap.size C ?_ ?_ (.tmp 1) ?_ ?_ ?_ ?_); exact K0.out.bx 0 _ _ _ rfl; exact gC.out; kernel_rfl; rfl; rfl)
      | (go_at_call 12; refine (check_gl y0 C g (hg.out.below K0.out.low)).mono ?_; rintro e y1 ⟨rfl, H1⟩; have K1 : Hid (Fm w [(w.heap.size, C, 29), (w.heap.size + 1, OZ, 49)] y1) := K0.out.below H1; rw [hm.out]; have c17 := (K1.out.bx 0 _ _ _ rfl).c 17 _ fC.out.1)
      | (go_at_call 17; refine (hpl y1).mono ?_; rintro e y2 ⟨rfl, e1⟩; replace e1 := e1.symm; subst e1))
  go_cut [6, 7] (fun pp tt wz => ∃ (bo : Nat) (y : World), y = wz ∧ pp = .pointer (some ⟨bo, 0, none⟩) ∧ tt = .bool DB ∧ Hid (Fm w [(w.heap.size, C, 29), (w.heap.size + 1, OZ, 49), (bo, o6 OD, 49)] y))
  case first =>
    have cc : Hid (∀ k, Below y1.heap.size y1 k → k.cell? ⟨w.heap.size, 22, none⟩ = some (.slice (some ⟨gM, oM, none⟩) 3232 cM) ∧ k.cell? ⟨gM, oM + at_, none⟩ = some (.int .u8 (H : Int)) ∧ k.cell? ⟨gM, oM + at1, none⟩ = some (.int .u8 (L : Int))) := fun k hk => by
      have K2 := K1.out.below hk
      have q1 := World.block_lt_of_cell? w _ cc0.out.1
      exact ⟨(K2.bx 0 _ _ _ rfl).c 22 _ fC.out.2, (World.cell?_of_block (w := w) (a := ⟨gM, oM + at_, none⟩) (K2.low.block gM q1)).trans cc0.out.1, (World.cell?_of_block (w := w) (a := ⟨gM, oM + at1, none⟩) (K2.low.block gM q1)).trans cc0.out.2⟩
    have Kz0 : Hid (Below y1.heap.size y1 y1.drew ∧ True) := ⟨below_drew (Below.refl _ _), trivial⟩
    refine wp_region_held_drew (S := fun y => Below y1.heap.size y1 y) (by kernel_rfl) Kz0.out.1 (fun hH => ?_)
    generalize y1.drew = z0 at hH Kz0 ⊢
    refine wpAnyH_take (i := 0) (oi := ⟨some 22, _, _, _, _, _⟩) (v := .pointer (some ⟨w.heap.size, 22, none⟩)) rfl (by kernel_rfl) (by kernel_rfl) (by kernel_rfl) (fun _ _ _ h => h) (.inl ⟨by kernel_rfl, fun k hk => by go_simp⟩) hH ?_
    try simp only [Act.put, List.setIfInBounds_toArray, List.set_cons_zero, List.set_cons_succ]
    refine wpAnyH_take (i := 1) (oi := ⟨some 23, _, _, _, _, _⟩) (v := .slice (some ⟨gM, oM, none⟩) 3232 cM) rfl (by kernel_rfl) (by kernel_rfl) (by kernel_rfl) (fun _ _ _ h => h) (.inl ⟨by kernel_rfl, fun k hk => by have d := (cc.out k hk).1; go_simp⟩) hH ?_
    try simp only [Act.put, List.setIfInBounds_toArray, List.set_cons_zero, List.set_cons_succ]
    refine wpAnyH_take (i := 2) (oi := ⟨some 24, _, _, _, _, _⟩) (v := .int .i64 (at_ : Int)) rfl (by kernel_rfl) (by kernel_rfl) (by kernel_rfl) (fun _ _ _ h => h) (.inl ⟨by kernel_rfl, fun k hk => by go_simp⟩) hH ?_
    try simp only [Act.put, List.setIfInBounds_toArray, List.set_cons_zero, List.set_cons_succ]
    refine wpAnyH_take (i := 3) (oi := ⟨some 25, _, _, _, _, _⟩) (v := .pointer (some ⟨gM, oM + at_, none⟩)) rfl (by kernel_rfl) (by kernel_rfl) (by kernel_rfl) (fun _ _ _ h => h) (.inl ⟨by kernel_rfl, fun k hk => by have d := ia1 k; go_simp⟩) hH ?_
    try simp only [Act.put, List.setIfInBounds_toArray, List.set_cons_zero, List.set_cons_succ]
    refine wpAnyH_take (i := 4) (oi := ⟨some 26, _, _, _, _, _⟩) (v := .int .u8 (H : Int)) rfl (by kernel_rfl) (by kernel_rfl) (by kernel_rfl) (fun _ _ _ h => h) (.inl ⟨by kernel_rfl, fun k hk => by have d := (cc.out k hk).2.1; go_simp⟩) hH ?_
    try simp only [Act.put, List.setIfInBounds_toArray, List.set_cons_zero, List.set_cons_succ]
    refine wpAnyH_take (i := 5) (oi := ⟨some 27, _, _, _, _, _⟩) (v := .int .u16 (H : Int)) rfl (by kernel_rfl) (by kernel_rfl) (by kernel_rfl) (fun _ _ _ h => h) (.inl ⟨by kernel_rfl, fun k hk => by go_simp; exact wrapn16 H (by omega)⟩) hH ?_
    try simp only [Act.put, List.setIfInBounds_toArray, List.set_cons_zero, List.set_cons_succ]
    refine wpAnyH_take (i := 6) (oi := ⟨some 28, _, _, _, _, _⟩) (v := .int .u16 (HH : Int)) rfl (by kernel_rfl) (by kernel_rfl) (by kernel_rfl) (fun _ _ _ h => h) (.inl ⟨by kernel_rfl, fun k hk => by have d := hsh; go_simp⟩) hH ?_
    try simp only [Act.put, List.setIfInBounds_toArray, List.set_cons_zero, List.set_cons_succ]
    refine wpAnyH_take (i := 7) (oi := ⟨some 29, _, _, _, _, _⟩) (v := .pointer (some ⟨w.heap.size, 22, none⟩)) rfl (by kernel_rfl) (by kernel_rfl) (by kernel_rfl) (fun _ _ _ h => h) (.inl ⟨by kernel_rfl, fun k hk => by go_simp⟩) hH ?_
    try simp only [Act.put, List.setIfInBounds_toArray, List.set_cons_zero, List.set_cons_succ]
    refine wpAnyH_take (i := 8) (oi := ⟨some 30, _, _, _, _, _⟩) (v := .slice (some ⟨gM, oM, none⟩) 3232 cM) rfl (by kernel_rfl) (by kernel_rfl) (by kernel_rfl) (fun _ _ _ h => h) (.inl ⟨by kernel_rfl, fun k hk => by have d := (cc.out k hk).1; go_simp⟩) hH ?_
    try simp only [Act.put, List.setIfInBounds_toArray, List.set_cons_zero, List.set_cons_succ]
    refine wpAnyH_take (i := 9) (oi := ⟨some 31, _, _, _, _, _⟩) (v := .int .i64 (at_ : Int)) rfl (by kernel_rfl) (by kernel_rfl) (by kernel_rfl) (fun _ _ _ h => h) (.inl ⟨by kernel_rfl, fun k hk => by go_simp⟩) hH ?_
    try simp only [Act.put, List.setIfInBounds_toArray, List.set_cons_zero, List.set_cons_succ]
    refine wpAnyH_take (i := 10) (oi := ⟨some 32, _, _, _, _, _⟩) (v := .int .i64 (at1 : Int)) rfl (by kernel_rfl) (by kernel_rfl) (by kernel_rfl) (fun _ _ _ h => h) (.inl ⟨by kernel_rfl, fun k hk => by have d := ha1; go_simp; rw [IntKind.wrap_i64]; omega⟩) hH ?_
    try simp only [Act.put, List.setIfInBounds_toArray, List.set_cons_zero, List.set_cons_succ]
    refine wpAnyH_take (i := 11) (oi := ⟨some 33, _, _, _, _, _⟩) (v := .pointer (some ⟨gM, oM + at1, none⟩)) rfl (by kernel_rfl) (by kernel_rfl) (by kernel_rfl) (fun _ _ _ h => h) (.inl ⟨by kernel_rfl, fun k hk => by have d := ia2 k; go_simp⟩) hH ?_
    try simp only [Act.put, List.setIfInBounds_toArray, List.set_cons_zero, List.set_cons_succ]
    refine wpAnyH_take (i := 12) (oi := ⟨some 34, _, _, _, _, _⟩) (v := .int .u8 (L : Int)) rfl (by kernel_rfl) (by kernel_rfl) (by kernel_rfl) (fun _ _ _ h => h) (.inl ⟨by kernel_rfl, fun k hk => by have d := (cc.out k hk).2.2; go_simp⟩) hH ?_
    try simp only [Act.put, List.setIfInBounds_toArray, List.set_cons_zero, List.set_cons_succ]
    refine wpAnyH_take (i := 13) (oi := ⟨some 35, _, _, _, _, _⟩) (v := .int .u16 (L : Int)) rfl (by kernel_rfl) (by kernel_rfl) (by kernel_rfl) (fun _ _ _ h => h) (.inl ⟨by kernel_rfl, fun k hk => by go_simp; exact wrapn16 L (by omega)⟩) hH ?_
    try simp only [Act.put, List.setIfInBounds_toArray, List.set_cons_zero, List.set_cons_succ]
    refine wpAnyH_take (i := 14) (oi := ⟨some 36, _, _, _, _, _⟩) (v := .int .u16 (WD : Int)) rfl (by kernel_rfl) (by kernel_rfl) (by kernel_rfl) (fun _ _ _ h => h) (.inl ⟨by kernel_rfl, fun k hk => by have d := hor; go_simp⟩) hH ?_
    try simp only [Act.put, List.setIfInBounds_toArray, List.set_cons_zero, List.set_cons_succ]
    refine wpAnyH_ready (rs := [15, 19]) (by kernel_rfl) (by simp) (fun i hi => ?_)
    rcases List.mem_cons.1 hi with rfl | hi
    · clear hi
      refine wpOp_list (o := ⟨some 37, _, _, _, _, _⟩) rfl ?_
      go_wp2_with (go_at_call 18; refine (hdec z0).mono ?_; rintro e z1 ⟨rfl, H⟩; have Kz1 : Hid (Below y1.heap.size y1 z1 ∧ Below z0.heap.size z0 z1) := ⟨Kz0.out.1.trans (H.mono Kz0.out.1.size), H⟩; clear H)
      refine ⟨Kz1.out.1, ?_⟩
      replace hH := Kz1.out.1
      try simp only [Act.put, List.setIfInBounds_toArray, List.set_cons_zero, List.set_cons_succ]
      refine wpAnyH_take (i := 16) (oi := ⟨some 21, _, _, _, _, _⟩) (v := .tuple #[.agg (o6 OD), .bool DB]) rfl (by kernel_rfl) (by kernel_rfl) (by kernel_rfl) (fun _ _ _ h => h) (.inl ⟨by kernel_rfl, fun k hk => by go_simp⟩) hH ?_
      try simp only [Act.put, List.setIfInBounds_toArray, List.set_cons_zero, List.set_cons_succ]
      refine wpAnyH_take (i := 17) (oi := ⟨some 38, _, _, _, _, _⟩) (v := .agg (o6 OD)) rfl (by kernel_rfl) (by kernel_rfl) (by kernel_rfl) (fun _ _ _ h => h) (.inl ⟨by kernel_rfl, fun k hk => by go_simp⟩) hH ?_
      try simp only [Act.put, List.setIfInBounds_toArray, List.set_cons_zero, List.set_cons_succ]
      refine wpAnyH_take (i := 18) (oi := ⟨some 39, _, _, _, _, _⟩) (v := .bool DB) rfl (by kernel_rfl) (by kernel_rfl) (by kernel_rfl) (fun _ _ _ h => h) (.inl ⟨by kernel_rfl, fun k hk => by go_simp⟩) hH ?_
      try simp only [Act.put, List.setIfInBounds_toArray, List.set_cons_zero, List.set_cons_succ]
      refine wpAnyH_ready (rs := [19]) (by kernel_rfl) (by simp) (fun i hi => ?_)
      obtain rfl := List.mem_singleton.1 hi
      clear hi
      refine wpOp_list (o := ⟨some 6, _, _, _, _, _⟩) rfl ?_
      refine at_al rfl rfl ?_
      have Kz2 : Hid (Below y1.heap.size y1 (z1.alloc (.cells #[.int .u8 0, .int .u8 0, .int .u8 0, .int .u8 0, .int .u8 0, .int .u16 0] 49)) ∧ Bx (z1.alloc (.cells #[.int .u8 0, .int .u8 0, .int .u8 0, .int .u8 0, .int .u8 0, .int .u16 0] 49)) z1.heap.size #[.int .u8 0, .int .u8 0, .int .u8 0, .int .u8 0, .int .u8 0, .int .u16 0] 49) := ⟨Kz1.out.1.trans ((below1 z1 _).mono Kz1.out.1.size), one_bxL z1 _ _⟩
      refine ⟨Kz2.out.1, ?_⟩
      replace hH := Kz2.out.1
      obtain ⟨bo, hbo⟩ : ∃ bo, z1.heap.size = bo := ⟨_, rfl⟩
      have lbo : Hid (y1.heap.size ≤ bo) := by rw [← hbo]; exact Kz1.out.1.size
      generalize z1.alloc (.cells #[.int .u8 0, .int .u8 0, .int .u8 0, .int .u8 0, .int .u8 0, .int .u16 0] 49) = z2 at hH Kz2 ⊢
      rw [hbo] at Kz2 ⊢
      clear hbo
      try simp only [Act.put, List.setIfInBounds_toArray, List.set_cons_zero, List.set_cons_succ]
      have Kbx : Hid (Bx z2 bo #[.int .u8 0, .int .u8 0, .int .u8 0, .int .u8 0, .int .u8 0, .int .u16 0] 49) := Kz2.out.2
      refine wpAnyH_ready (rs := [20]) (by kernel_rfl) (by simp) (fun i hi => ?_)
      obtain rfl := List.mem_singleton.1 hi
      clear hi
      refine wpOp_list (o := ⟨none, _, _, _, _, _⟩) rfl ?_
      refine at_st rtO bo #[.int .u8 0, .int .u8 0, .int .u8 0, .int .u8 0, .int .u8 0, .int .u16 0] (o6 OD) Kbx.out rfl rfl (o6_one OD) (.tmp 6) (.tmp 38) rfl rfl rfl rfl ?_
      intro zE HE
      have KzE : Hid (Below y1.heap.size y1 zE) := Kz2.out.1.trans (HE.out.2.1 _ lbo.out)
      refine ⟨KzE.out, ?_⟩
      replace hH := KzE.out
      try simp only [Act.put]
      refine wpAnyH_take (i := 21) (oi := ⟨some 7, _, _, _, _, _⟩) (v := .bool DB) rfl (by kernel_rfl) (by kernel_rfl) (by kernel_rfl) (fun _ _ _ h => h) (.inl ⟨by kernel_rfl, fun k hk => by go_simp⟩) hH ?_
      try simp only [Act.put, List.setIfInBounds_toArray, List.set_cons_zero, List.set_cons_succ]
      refine wpAnyH_done (by kernel_rfl) ?_ _
      try go_wp2
      go_meet
      exact ⟨bo, zE, rfl, rfl, rfl, (K1.out.below KzE.out).add2 lbo.out K1.out.lts K1.out.low.size HE.out.1⟩
    · obtain rfl := List.mem_singleton.1 hi
      clear hi
      refine wpOp_list (o := ⟨some 6, _, _, _, _, _⟩) rfl ?_
      refine at_al rfl rfl ?_
      have Kz1 : Hid (Below y1.heap.size y1 (z0.alloc (.cells #[.int .u8 0, .int .u8 0, .int .u8 0, .int .u8 0, .int .u8 0, .int .u16 0] 49)) ∧ Bx (z0.alloc (.cells #[.int .u8 0, .int .u8 0, .int .u8 0, .int .u8 0, .int .u8 0, .int .u16 0] 49)) z0.heap.size #[.int .u8 0, .int .u8 0, .int .u8 0, .int .u8 0, .int .u8 0, .int .u16 0] 49) := ⟨Kz0.out.1.trans ((below1 z0 _).mono Kz0.out.1.size), one_bxL z0 _ _⟩
      refine ⟨Kz1.out.1, ?_⟩
      replace hH := Kz1.out.1
      obtain ⟨bo, hbo⟩ : ∃ bo, z0.heap.size = bo := ⟨_, rfl⟩
      have lbo : Hid (y1.heap.size ≤ bo) := by rw [← hbo]; exact Kz0.out.1.size
      generalize z0.alloc (.cells #[.int .u8 0, .int .u8 0, .int .u8 0, .int .u8 0, .int .u8 0, .int .u16 0] 49) = z1 at hH Kz1 ⊢
      rw [hbo] at Kz1 ⊢
      clear hbo
      try simp only [Act.put, List.setIfInBounds_toArray, List.set_cons_zero, List.set_cons_succ]
      refine wpAnyH_ready (rs := [15]) (by kernel_rfl) (by simp) (fun i hi => ?_)
      obtain rfl := List.mem_singleton.1 hi
      clear hi
      refine wpOp_list (o := ⟨some 37, _, _, _, _, _⟩) rfl ?_
      go_wp2_with (go_at_call 18; refine (hdec z1).mono ?_; rintro e z2 ⟨rfl, H⟩; have Kz2 : Hid (Below y1.heap.size y1 z2 ∧ Below z1.heap.size z1 z2) := ⟨Kz1.out.1.trans (H.mono Kz1.out.1.size), H⟩; clear H)
      refine ⟨Kz2.out.1, ?_⟩
      replace hH := Kz2.out.1
      try simp only [Act.put, List.setIfInBounds_toArray, List.set_cons_zero, List.set_cons_succ]
      refine wpAnyH_take (i := 16) (oi := ⟨some 21, _, _, _, _, _⟩) (v := .tuple #[.agg (o6 OD), .bool DB]) rfl (by kernel_rfl) (by kernel_rfl) (by kernel_rfl) (fun _ _ _ h => h) (.inl ⟨by kernel_rfl, fun k hk => by go_simp⟩) hH ?_
      try simp only [Act.put, List.setIfInBounds_toArray, List.set_cons_zero, List.set_cons_succ]
      refine wpAnyH_take (i := 17) (oi := ⟨some 38, _, _, _, _, _⟩) (v := .agg (o6 OD)) rfl (by kernel_rfl) (by kernel_rfl) (by kernel_rfl) (fun _ _ _ h => h) (.inl ⟨by kernel_rfl, fun k hk => by go_simp⟩) hH ?_
      try simp only [Act.put, List.setIfInBounds_toArray, List.set_cons_zero, List.set_cons_succ]
      refine wpAnyH_take (i := 18) (oi := ⟨some 39, _, _, _, _, _⟩) (v := .bool DB) rfl (by kernel_rfl) (by kernel_rfl) (by kernel_rfl) (fun _ _ _ h => h) (.inl ⟨by kernel_rfl, fun k hk => by go_simp⟩) hH ?_
      try simp only [Act.put, List.setIfInBounds_toArray, List.set_cons_zero, List.set_cons_succ]
      have Kbx : Hid (Bx z2 bo #[.int .u8 0, .int .u8 0, .int .u8 0, .int .u8 0, .int .u8 0, .int .u16 0] 49) := (Kz2.out.2.block bo (heap_lt Kz1.out.2)).trans Kz1.out.2
      refine wpAnyH_ready (rs := [20]) (by kernel_rfl) (by simp) (fun i hi => ?_)
      obtain rfl := List.mem_singleton.1 hi
      clear hi
      refine wpOp_list (o := ⟨none, _, _, _, _, _⟩) rfl ?_
      refine at_st rtO bo #[.int .u8 0, .int .u8 0, .int .u8 0, .int .u8 0, .int .u8 0, .int .u16 0] (o6 OD) Kbx.out rfl rfl (o6_one OD) (.tmp 6) (.tmp 38) rfl rfl rfl rfl ?_
      intro zE HE
      have KzE : Hid (Below y1.heap.size y1 zE) := Kz2.out.1.trans (HE.out.2.1 _ lbo.out)
      refine ⟨KzE.out, ?_⟩
      replace hH := KzE.out
      try simp only [Act.put]
      refine wpAnyH_take (i := 21) (oi := ⟨some 7, _, _, _, _, _⟩) (v := .bool DB) rfl (by kernel_rfl) (by kernel_rfl) (by kernel_rfl) (fun _ _ _ h => h) (.inl ⟨by kernel_rfl, fun k hk => by go_simp⟩) hH ?_
      try simp only [Act.put, List.setIfInBounds_toArray, List.set_cons_zero, List.set_cons_succ]
      refine wpAnyH_done (by kernel_rfl) ?_ _
      try go_wp2
      go_meet
      exact ⟨bo, zE, rfl, rfl, rfl, (K1.out.below KzE.out).add2 lbo.out K1.out.lts K1.out.low.size HE.out.1⟩

  case rest =>
    subst hDB
    obtain ⟨bo, y2, rfl, rfl, rfl, K2⟩ := hcut
    go_wp2_with (first
      | ((with_reducible refine at_bu #[] [] #[.int .u8 0, .int .u8 0, .int .u8 0, .int .u8 0, .int .u8 0, .int .u16 0] ?_ ?_ ?_ builtO0 ?_); kernel_rfl; rfl; rfl)
      | ((with_reducible refine at_st rtO (w.heap.size + 1) OZ #[.int .u8 0, .int .u8 0, .int .u8 0, .int .u8 0, .int .u8 0, .int .u16 0] ?_ ?_ ?_ ?_ (.tmp 2) (.tmp 42) ?_ ?_ ?_ ?_ ?_); exact K2.out.bx 1 _ _ _ rfl; exact hOZ'.out; rfl; kernel_rfl; rfl; rfl; rfl; rfl; intro yE HE; have KE : Hid (Fm w [(w.heap.size, C, 29), (w.heap.size + 1, o6 od0, 49), (bo, o6 OD, 49)] yE) := K2.out.put 1 _ _ _ _ rfl HE.out))
    exact ret_two rtO rfl rfl rfl (KE.out.bx 1 _ _ _ rfl) rfl rfl ⟨rfl, KE.out.low⟩

theorem next_machine (w : World) (C : Array Value) (g : Gm) (hg : Hid (GL w C g)) (hm : Hid (g.may = true)) (hf : fitG g.pc 2 = true) (WD : Nat) (OD : Od) (hWD : wordG g = WD) (hOD : decO WD = OD) (hdb : Hid (decB WD = true)) (hop : Hid (OD.op = 1)) :
    Calls Try.prog 14 #[.agg C] w fun e w' => e = .returned (.tuple #[.agg (o6 OD), .int .u8 3]) ∧ Below w.heap.size w w' := by
  have gC : Hid (C.size = 23) := hg.out.size.1
  obtain ⟨OZ, hOZ⟩ : ∃ x : Array Value, Hid (x = #[.int .u8 0, .int .u8 0, .int .u8 0, .int .u8 0, .int .u8 0, .int .u16 0]) := ⟨_, (rfl : (#[.int .u8 0, .int .u8 0, .int .u8 0, .int .u8 0, .int .u8 0, .int .u16 0] : Array Value) = _)⟩
  have hOZ' : Hid (OZ.size = 6) := by show _ = _; rw [hOZ.out]; rfl
  have hpl := fun y => places_any y g.pc 2 hg.out.2.pc (by decide) (by decide)
  rw [hf, if_pos rfl] at hpl
  have hf2 : 512 ≤ g.pc ∧ g.pc + 2 ≤ 3744 := by unfold fitG at hf; simpa using hf
  have hml := (may_iff.1 hm.out).2.1
  obtain ⟨⟨sS, sP, sM, cS, cP, cM, hC, h1, h2, h3⟩, ok⟩ := hg.out
  obtain ⟨gM, oM, rfl⟩ := lb_some h3 (by omega)
  have fC : Hid (C[17]? = some (.int .u16 (g.pc : Int)) ∧ C[22]? = some (.slice (some ⟨gM, oM, none⟩) 3232 cM)) := by rw [hC, hml]; exact ⟨rfl, rfl⟩
  obtain ⟨at_, hat⟩ : ∃ x, g.pc - 512 = x := ⟨_, rfl⟩
  obtain ⟨at1, hat1⟩ : ∃ x, at_ + 1 = x := ⟨_, rfl⟩
  have ca := lb_at h3 at_ (by omega)
  have cb := lb_at h3 at1 (by omega)
  obtain ⟨H, hH⟩ : ∃ x, (g.me.getD at_ 0).toNat = x := ⟨_, rfl⟩
  obtain ⟨L, hL⟩ : ∃ x, (g.me.getD at1 0).toNat = x := ⟨_, rfl⟩
  have lH := (g.me.getD at_ 0).toNat_lt
  have lL := (g.me.getD at1 0).toNat_lt
  rw [hH] at ca lH
  rw [hL] at cb lL
  have eWD : WD = H * 256 + L := by rw [← hWD]; unfold wordG; rw [show g.pc + 1 - 512 = at1 by omega, hat, hH, hL]
  have hdec := fun y => decode_any y WD (by omega)
  rw [hdb.out, hOD] at hdec
  obtain ⟨DB, hDB⟩ : ∃ x, x = true := ⟨_, rfl⟩
  rw [← hDB] at hdec
  obtain ⟨HH, hHH⟩ : ∃ x, H * 256 = x := ⟨_, rfl⟩
  have hsh : Op.shift .shl .u16 (H : Int) .u64 8 = pure (.int .u16 (HH : Int)) := by
    unfold Op.shift
    rw [if_neg (by decide)]
    simp only [IntKind.bits, show Int.toNat 8 = 8 from rfl, show Nat.min 8 16 = 8 from rfl]
    rw [IntKind.wrap_u16]
    congr 2
    show (H : Int) * 2 ^ 8 % 65536 = _
    omega
  have hor := orNN HH L (by omega) (by omega)
  have e3 : HH ||| L = WD := by
    rw [← hHH, eWD]
    have := Nat.two_pow_add_eq_or_of_lt (i := 8) (b := L) (by omega) H
    rw [show H * 256 = 2 ^ 8 * H by omega]
    exact this.symm
  rw [e3] at hor
  have ia1 := fun v => idxB .i64 gM oM 3232 cM at_ v (by omega)
  have ia2 := fun v => idxB .i64 gM oM 3232 cM at1 v (by omega)
  have ha1 : (at_ : Int) + 1 = (at1 : Int) := by omega
  rw [hat] at hpl
  obtain ⟨p, hp⟩ : ∃ p, g.pc = p := ⟨_, rfl⟩
  rw [hp] at hpl fC hf2
  have i1 : (at_ : Int) ≤ 3231 := by omega
  have i2 : (at1 : Int) ≤ 3231 := by omega
  have i3 : (p : Int) < 65536 := by omega
  have i4 : (H : Int) < 256 := by omega
  have i5 : (L : Int) < 256 := by omega
  have i6 : (HH : Int) < 65536 := by omega
  have cc0 : Hid (w.cell? ⟨gM, oM + at_, none⟩ = some (.int .u8 (H : Int)) ∧ w.cell? ⟨gM, oM + at1, none⟩ = some (.int .u8 (L : Int))) := ⟨ca, cb⟩
  clear hf hC h1 h2 h3 ok hml hat hat1 ca cb hH hL lH lL hWD eWD hOD hHH e3 hp hf2
  go_enter Try.func14, Try.ntmps14
  go_upto_region 6 with (first
      | ((with_reducible refine gen_world ((w.alloc (.cells C 29)).alloc (.cells #[.int .u8 0, .int .u8 0, .int .u8 0, .int .u8 0, .int .u8 0, .int .u16 0] 49)) (Fm w [(w.heap.size, C, 29), (w.heap.size + 1, OZ, 49)]) ?_ ?_); (rw [hOZ.out]; exact Fm.two w _ _ _ _); intro y0 K0)
      | ((with_reducible refine at_load rtG w.heap.size C ?_ ?_ (.tmp 1) ?_ ?_ ?_ ?_); exact K0.out.bx 0 _ _ _ rfl; exact gC.out; kernel_rfl; rfl; rfl)
      | (go_at_call 12; refine (check_gl y0 C g (hg.out.below K0.out.low)).mono ?_; rintro e y1 ⟨rfl, H1⟩; have K1 : Hid (Fm w [(w.heap.size, C, 29), (w.heap.size + 1, OZ, 49)] y1) := K0.out.below H1; rw [hm.out]; have c17 := (K1.out.bx 0 _ _ _ rfl).c 17 _ fC.out.1)
      | (go_at_call 17; refine (hpl y1).mono ?_; rintro e y2 ⟨rfl, e1⟩; replace e1 := e1.symm; subst e1))
  go_cut [6, 7] (fun pp tt wz => ∃ (bo : Nat) (y : World), y = wz ∧ pp = .pointer (some ⟨bo, 0, none⟩) ∧ tt = .bool DB ∧ Hid (Fm w [(w.heap.size, C, 29), (w.heap.size + 1, OZ, 49), (bo, o6 OD, 49)] y))
  case first =>
    have cc : Hid (∀ k, Below y1.heap.size y1 k → k.cell? ⟨w.heap.size, 22, none⟩ = some (.slice (some ⟨gM, oM, none⟩) 3232 cM) ∧ k.cell? ⟨gM, oM + at_, none⟩ = some (.int .u8 (H : Int)) ∧ k.cell? ⟨gM, oM + at1, none⟩ = some (.int .u8 (L : Int))) := fun k hk => by
      have K2 := K1.out.below hk
      have q1 := World.block_lt_of_cell? w _ cc0.out.1
      exact ⟨(K2.bx 0 _ _ _ rfl).c 22 _ fC.out.2, (World.cell?_of_block (w := w) (a := ⟨gM, oM + at_, none⟩) (K2.low.block gM q1)).trans cc0.out.1, (World.cell?_of_block (w := w) (a := ⟨gM, oM + at1, none⟩) (K2.low.block gM q1)).trans cc0.out.2⟩
    have Kz0 : Hid (Below y1.heap.size y1 y1.drew ∧ True) := ⟨below_drew (Below.refl _ _), trivial⟩
    refine wp_region_held_drew (S := fun y => Below y1.heap.size y1 y) (by kernel_rfl) Kz0.out.1 (fun hH => ?_)
    generalize y1.drew = z0 at hH Kz0 ⊢
    refine wpAnyH_take (i := 0) (oi := ⟨some 22, _, _, _, _, _⟩) (v := .pointer (some ⟨w.heap.size, 22, none⟩)) rfl (by kernel_rfl) (by kernel_rfl) (by kernel_rfl) (fun _ _ _ h => h) (.inl ⟨by kernel_rfl, fun k hk => by go_simp⟩) hH ?_
    try simp only [Act.put, List.setIfInBounds_toArray, List.set_cons_zero, List.set_cons_succ]
    refine wpAnyH_take (i := 1) (oi := ⟨some 23, _, _, _, _, _⟩) (v := .slice (some ⟨gM, oM, none⟩) 3232 cM) rfl (by kernel_rfl) (by kernel_rfl) (by kernel_rfl) (fun _ _ _ h => h) (.inl ⟨by kernel_rfl, fun k hk => by have d := (cc.out k hk).1; go_simp⟩) hH ?_
    try simp only [Act.put, List.setIfInBounds_toArray, List.set_cons_zero, List.set_cons_succ]
    refine wpAnyH_take (i := 2) (oi := ⟨some 24, _, _, _, _, _⟩) (v := .int .i64 (at_ : Int)) rfl (by kernel_rfl) (by kernel_rfl) (by kernel_rfl) (fun _ _ _ h => h) (.inl ⟨by kernel_rfl, fun k hk => by go_simp⟩) hH ?_
    try simp only [Act.put, List.setIfInBounds_toArray, List.set_cons_zero, List.set_cons_succ]
    refine wpAnyH_take (i := 3) (oi := ⟨some 25, _, _, _, _, _⟩) (v := .pointer (some ⟨gM, oM + at_, none⟩)) rfl (by kernel_rfl) (by kernel_rfl) (by kernel_rfl) (fun _ _ _ h => h) (.inl ⟨by kernel_rfl, fun k hk => by have d := ia1 k; go_simp⟩) hH ?_
    try simp only [Act.put, List.setIfInBounds_toArray, List.set_cons_zero, List.set_cons_succ]
    refine wpAnyH_take (i := 4) (oi := ⟨some 26, _, _, _, _, _⟩) (v := .int .u8 (H : Int)) rfl (by kernel_rfl) (by kernel_rfl) (by kernel_rfl) (fun _ _ _ h => h) (.inl ⟨by kernel_rfl, fun k hk => by have d := (cc.out k hk).2.1; go_simp⟩) hH ?_
    try simp only [Act.put, List.setIfInBounds_toArray, List.set_cons_zero, List.set_cons_succ]
    refine wpAnyH_take (i := 5) (oi := ⟨some 27, _, _, _, _, _⟩) (v := .int .u16 (H : Int)) rfl (by kernel_rfl) (by kernel_rfl) (by kernel_rfl) (fun _ _ _ h => h) (.inl ⟨by kernel_rfl, fun k hk => by go_simp; exact wrapn16 H (by omega)⟩) hH ?_
    try simp only [Act.put, List.setIfInBounds_toArray, List.set_cons_zero, List.set_cons_succ]
    refine wpAnyH_take (i := 6) (oi := ⟨some 28, _, _, _, _, _⟩) (v := .int .u16 (HH : Int)) rfl (by kernel_rfl) (by kernel_rfl) (by kernel_rfl) (fun _ _ _ h => h) (.inl ⟨by kernel_rfl, fun k hk => by have d := hsh; go_simp⟩) hH ?_
    try simp only [Act.put, List.setIfInBounds_toArray, List.set_cons_zero, List.set_cons_succ]
    refine wpAnyH_take (i := 7) (oi := ⟨some 29, _, _, _, _, _⟩) (v := .pointer (some ⟨w.heap.size, 22, none⟩)) rfl (by kernel_rfl) (by kernel_rfl) (by kernel_rfl) (fun _ _ _ h => h) (.inl ⟨by kernel_rfl, fun k hk => by go_simp⟩) hH ?_
    try simp only [Act.put, List.setIfInBounds_toArray, List.set_cons_zero, List.set_cons_succ]
    refine wpAnyH_take (i := 8) (oi := ⟨some 30, _, _, _, _, _⟩) (v := .slice (some ⟨gM, oM, none⟩) 3232 cM) rfl (by kernel_rfl) (by kernel_rfl) (by kernel_rfl) (fun _ _ _ h => h) (.inl ⟨by kernel_rfl, fun k hk => by have d := (cc.out k hk).1; go_simp⟩) hH ?_
    try simp only [Act.put, List.setIfInBounds_toArray, List.set_cons_zero, List.set_cons_succ]
    refine wpAnyH_take (i := 9) (oi := ⟨some 31, _, _, _, _, _⟩) (v := .int .i64 (at_ : Int)) rfl (by kernel_rfl) (by kernel_rfl) (by kernel_rfl) (fun _ _ _ h => h) (.inl ⟨by kernel_rfl, fun k hk => by go_simp⟩) hH ?_
    try simp only [Act.put, List.setIfInBounds_toArray, List.set_cons_zero, List.set_cons_succ]
    refine wpAnyH_take (i := 10) (oi := ⟨some 32, _, _, _, _, _⟩) (v := .int .i64 (at1 : Int)) rfl (by kernel_rfl) (by kernel_rfl) (by kernel_rfl) (fun _ _ _ h => h) (.inl ⟨by kernel_rfl, fun k hk => by have d := ha1; go_simp; rw [IntKind.wrap_i64]; omega⟩) hH ?_
    try simp only [Act.put, List.setIfInBounds_toArray, List.set_cons_zero, List.set_cons_succ]
    refine wpAnyH_take (i := 11) (oi := ⟨some 33, _, _, _, _, _⟩) (v := .pointer (some ⟨gM, oM + at1, none⟩)) rfl (by kernel_rfl) (by kernel_rfl) (by kernel_rfl) (fun _ _ _ h => h) (.inl ⟨by kernel_rfl, fun k hk => by have d := ia2 k; go_simp⟩) hH ?_
    try simp only [Act.put, List.setIfInBounds_toArray, List.set_cons_zero, List.set_cons_succ]
    refine wpAnyH_take (i := 12) (oi := ⟨some 34, _, _, _, _, _⟩) (v := .int .u8 (L : Int)) rfl (by kernel_rfl) (by kernel_rfl) (by kernel_rfl) (fun _ _ _ h => h) (.inl ⟨by kernel_rfl, fun k hk => by have d := (cc.out k hk).2.2; go_simp⟩) hH ?_
    try simp only [Act.put, List.setIfInBounds_toArray, List.set_cons_zero, List.set_cons_succ]
    refine wpAnyH_take (i := 13) (oi := ⟨some 35, _, _, _, _, _⟩) (v := .int .u16 (L : Int)) rfl (by kernel_rfl) (by kernel_rfl) (by kernel_rfl) (fun _ _ _ h => h) (.inl ⟨by kernel_rfl, fun k hk => by go_simp; exact wrapn16 L (by omega)⟩) hH ?_
    try simp only [Act.put, List.setIfInBounds_toArray, List.set_cons_zero, List.set_cons_succ]
    refine wpAnyH_take (i := 14) (oi := ⟨some 36, _, _, _, _, _⟩) (v := .int .u16 (WD : Int)) rfl (by kernel_rfl) (by kernel_rfl) (by kernel_rfl) (fun _ _ _ h => h) (.inl ⟨by kernel_rfl, fun k hk => by have d := hor; go_simp⟩) hH ?_
    try simp only [Act.put, List.setIfInBounds_toArray, List.set_cons_zero, List.set_cons_succ]
    refine wpAnyH_ready (rs := [15, 19]) (by kernel_rfl) (by simp) (fun i hi => ?_)
    rcases List.mem_cons.1 hi with rfl | hi
    · clear hi
      refine wpOp_list (o := ⟨some 37, _, _, _, _, _⟩) rfl ?_
      go_wp2_with (go_at_call 18; refine (hdec z0).mono ?_; rintro e z1 ⟨rfl, H⟩; have Kz1 : Hid (Below y1.heap.size y1 z1 ∧ Below z0.heap.size z0 z1) := ⟨Kz0.out.1.trans (H.mono Kz0.out.1.size), H⟩; clear H)
      refine ⟨Kz1.out.1, ?_⟩
      replace hH := Kz1.out.1
      try simp only [Act.put, List.setIfInBounds_toArray, List.set_cons_zero, List.set_cons_succ]
      refine wpAnyH_take (i := 16) (oi := ⟨some 21, _, _, _, _, _⟩) (v := .tuple #[.agg (o6 OD), .bool DB]) rfl (by kernel_rfl) (by kernel_rfl) (by kernel_rfl) (fun _ _ _ h => h) (.inl ⟨by kernel_rfl, fun k hk => by go_simp⟩) hH ?_
      try simp only [Act.put, List.setIfInBounds_toArray, List.set_cons_zero, List.set_cons_succ]
      refine wpAnyH_take (i := 17) (oi := ⟨some 38, _, _, _, _, _⟩) (v := .agg (o6 OD)) rfl (by kernel_rfl) (by kernel_rfl) (by kernel_rfl) (fun _ _ _ h => h) (.inl ⟨by kernel_rfl, fun k hk => by go_simp⟩) hH ?_
      try simp only [Act.put, List.setIfInBounds_toArray, List.set_cons_zero, List.set_cons_succ]
      refine wpAnyH_take (i := 18) (oi := ⟨some 39, _, _, _, _, _⟩) (v := .bool DB) rfl (by kernel_rfl) (by kernel_rfl) (by kernel_rfl) (fun _ _ _ h => h) (.inl ⟨by kernel_rfl, fun k hk => by go_simp⟩) hH ?_
      try simp only [Act.put, List.setIfInBounds_toArray, List.set_cons_zero, List.set_cons_succ]
      refine wpAnyH_ready (rs := [19]) (by kernel_rfl) (by simp) (fun i hi => ?_)
      obtain rfl := List.mem_singleton.1 hi
      clear hi
      refine wpOp_list (o := ⟨some 6, _, _, _, _, _⟩) rfl ?_
      refine at_al rfl rfl ?_
      have Kz2 : Hid (Below y1.heap.size y1 (z1.alloc (.cells #[.int .u8 0, .int .u8 0, .int .u8 0, .int .u8 0, .int .u8 0, .int .u16 0] 49)) ∧ Bx (z1.alloc (.cells #[.int .u8 0, .int .u8 0, .int .u8 0, .int .u8 0, .int .u8 0, .int .u16 0] 49)) z1.heap.size #[.int .u8 0, .int .u8 0, .int .u8 0, .int .u8 0, .int .u8 0, .int .u16 0] 49) := ⟨Kz1.out.1.trans ((below1 z1 _).mono Kz1.out.1.size), one_bxL z1 _ _⟩
      refine ⟨Kz2.out.1, ?_⟩
      replace hH := Kz2.out.1
      obtain ⟨bo, hbo⟩ : ∃ bo, z1.heap.size = bo := ⟨_, rfl⟩
      have lbo : Hid (y1.heap.size ≤ bo) := by rw [← hbo]; exact Kz1.out.1.size
      generalize z1.alloc (.cells #[.int .u8 0, .int .u8 0, .int .u8 0, .int .u8 0, .int .u8 0, .int .u16 0] 49) = z2 at hH Kz2 ⊢
      rw [hbo] at Kz2 ⊢
      clear hbo
      try simp only [Act.put, List.setIfInBounds_toArray, List.set_cons_zero, List.set_cons_succ]
      have Kbx : Hid (Bx z2 bo #[.int .u8 0, .int .u8 0, .int .u8 0, .int .u8 0, .int .u8 0, .int .u16 0] 49) := Kz2.out.2
      refine wpAnyH_ready (rs := [20]) (by kernel_rfl) (by simp) (fun i hi => ?_)
      obtain rfl := List.mem_singleton.1 hi
      clear hi
      refine wpOp_list (o := ⟨none, _, _, _, _, _⟩) rfl ?_
      refine at_st rtO bo #[.int .u8 0, .int .u8 0, .int .u8 0, .int .u8 0, .int .u8 0, .int .u16 0] (o6 OD) Kbx.out rfl rfl (o6_one OD) (.tmp 6) (.tmp 38) rfl rfl rfl rfl ?_
      intro zE HE
      have KzE : Hid (Below y1.heap.size y1 zE) := Kz2.out.1.trans (HE.out.2.1 _ lbo.out)
      refine ⟨KzE.out, ?_⟩
      replace hH := KzE.out
      try simp only [Act.put]
      refine wpAnyH_take (i := 21) (oi := ⟨some 7, _, _, _, _, _⟩) (v := .bool DB) rfl (by kernel_rfl) (by kernel_rfl) (by kernel_rfl) (fun _ _ _ h => h) (.inl ⟨by kernel_rfl, fun k hk => by go_simp⟩) hH ?_
      try simp only [Act.put, List.setIfInBounds_toArray, List.set_cons_zero, List.set_cons_succ]
      refine wpAnyH_done (by kernel_rfl) ?_ _
      try go_wp2
      go_meet
      exact ⟨bo, zE, rfl, rfl, rfl, (K1.out.below KzE.out).add2 lbo.out K1.out.lts K1.out.low.size HE.out.1⟩
    · obtain rfl := List.mem_singleton.1 hi
      clear hi
      refine wpOp_list (o := ⟨some 6, _, _, _, _, _⟩) rfl ?_
      refine at_al rfl rfl ?_
      have Kz1 : Hid (Below y1.heap.size y1 (z0.alloc (.cells #[.int .u8 0, .int .u8 0, .int .u8 0, .int .u8 0, .int .u8 0, .int .u16 0] 49)) ∧ Bx (z0.alloc (.cells #[.int .u8 0, .int .u8 0, .int .u8 0, .int .u8 0, .int .u8 0, .int .u16 0] 49)) z0.heap.size #[.int .u8 0, .int .u8 0, .int .u8 0, .int .u8 0, .int .u8 0, .int .u16 0] 49) := ⟨Kz0.out.1.trans ((below1 z0 _).mono Kz0.out.1.size), one_bxL z0 _ _⟩
      refine ⟨Kz1.out.1, ?_⟩
      replace hH := Kz1.out.1
      obtain ⟨bo, hbo⟩ : ∃ bo, z0.heap.size = bo := ⟨_, rfl⟩
      have lbo : Hid (y1.heap.size ≤ bo) := by rw [← hbo]; exact Kz0.out.1.size
      generalize z0.alloc (.cells #[.int .u8 0, .int .u8 0, .int .u8 0, .int .u8 0, .int .u8 0, .int .u16 0] 49) = z1 at hH Kz1 ⊢
      rw [hbo] at Kz1 ⊢
      clear hbo
      try simp only [Act.put, List.setIfInBounds_toArray, List.set_cons_zero, List.set_cons_succ]
      refine wpAnyH_ready (rs := [15]) (by kernel_rfl) (by simp) (fun i hi => ?_)
      obtain rfl := List.mem_singleton.1 hi
      clear hi
      refine wpOp_list (o := ⟨some 37, _, _, _, _, _⟩) rfl ?_
      go_wp2_with (go_at_call 18; refine (hdec z1).mono ?_; rintro e z2 ⟨rfl, H⟩; have Kz2 : Hid (Below y1.heap.size y1 z2 ∧ Below z1.heap.size z1 z2) := ⟨Kz1.out.1.trans (H.mono Kz1.out.1.size), H⟩; clear H)
      refine ⟨Kz2.out.1, ?_⟩
      replace hH := Kz2.out.1
      try simp only [Act.put, List.setIfInBounds_toArray, List.set_cons_zero, List.set_cons_succ]
      refine wpAnyH_take (i := 16) (oi := ⟨some 21, _, _, _, _, _⟩) (v := .tuple #[.agg (o6 OD), .bool DB]) rfl (by kernel_rfl) (by kernel_rfl) (by kernel_rfl) (fun _ _ _ h => h) (.inl ⟨by kernel_rfl, fun k hk => by go_simp⟩) hH ?_
      try simp only [Act.put, List.setIfInBounds_toArray, List.set_cons_zero, List.set_cons_succ]
      refine wpAnyH_take (i := 17) (oi := ⟨some 38, _, _, _, _, _⟩) (v := .agg (o6 OD)) rfl (by kernel_rfl) (by kernel_rfl) (by kernel_rfl) (fun _ _ _ h => h) (.inl ⟨by kernel_rfl, fun k hk => by go_simp⟩) hH ?_
      try simp only [Act.put, List.setIfInBounds_toArray, List.set_cons_zero, List.set_cons_succ]
      refine wpAnyH_take (i := 18) (oi := ⟨some 39, _, _, _, _, _⟩) (v := .bool DB) rfl (by kernel_rfl) (by kernel_rfl) (by kernel_rfl) (fun _ _ _ h => h) (.inl ⟨by kernel_rfl, fun k hk => by go_simp⟩) hH ?_
      try simp only [Act.put, List.setIfInBounds_toArray, List.set_cons_zero, List.set_cons_succ]
      have Kbx : Hid (Bx z2 bo #[.int .u8 0, .int .u8 0, .int .u8 0, .int .u8 0, .int .u8 0, .int .u16 0] 49) := (Kz2.out.2.block bo (heap_lt Kz1.out.2)).trans Kz1.out.2
      refine wpAnyH_ready (rs := [20]) (by kernel_rfl) (by simp) (fun i hi => ?_)
      obtain rfl := List.mem_singleton.1 hi
      clear hi
      refine wpOp_list (o := ⟨none, _, _, _, _, _⟩) rfl ?_
      refine at_st rtO bo #[.int .u8 0, .int .u8 0, .int .u8 0, .int .u8 0, .int .u8 0, .int .u16 0] (o6 OD) Kbx.out rfl rfl (o6_one OD) (.tmp 6) (.tmp 38) rfl rfl rfl rfl ?_
      intro zE HE
      have KzE : Hid (Below y1.heap.size y1 zE) := Kz2.out.1.trans (HE.out.2.1 _ lbo.out)
      refine ⟨KzE.out, ?_⟩
      replace hH := KzE.out
      try simp only [Act.put]
      refine wpAnyH_take (i := 21) (oi := ⟨some 7, _, _, _, _, _⟩) (v := .bool DB) rfl (by kernel_rfl) (by kernel_rfl) (by kernel_rfl) (fun _ _ _ h => h) (.inl ⟨by kernel_rfl, fun k hk => by go_simp⟩) hH ?_
      try simp only [Act.put, List.setIfInBounds_toArray, List.set_cons_zero, List.set_cons_succ]
      refine wpAnyH_done (by kernel_rfl) ?_ _
      try go_wp2
      go_meet
      exact ⟨bo, zE, rfl, rfl, rfl, (K1.out.below KzE.out).add2 lbo.out K1.out.lts K1.out.low.size HE.out.1⟩

  case rest =>
    subst hDB
    obtain ⟨bo, y2, rfl, rfl, rfl, K2⟩ := hcut
    have cop := (K2.out.bx 2 _ _ _ rfl).c 0 (.int .u8 (OD.op : Int)) rfl
    obtain ⟨q, hq⟩ : ∃ q, OD.op = q := ⟨_, rfl⟩
    have qq : ((q : Int) == 1) = true := by
      rw [← hq]
      have := hop.out
      simp
      omega
    rw [hq] at cop
    clear hq
    go_wp2_with (first
      | ((with_reducible refine at_load rtO bo (o6 OD) ?_ ?_ (.tmp 6) ?_ ?_ ?_ ?_); exact K2.out.bx 2 _ _ _ rfl; rfl; kernel_rfl; rfl; rfl)
      | ((with_reducible refine at_st rtO (w.heap.size + 1) OZ (o6 OD) ?_ ?_ ?_ ?_ (.tmp 2) (.tmp 46) ?_ ?_ ?_ ?_ ?_); exact K2.out.bx 1 _ _ _ rfl; exact hOZ'.out; rfl; exact o6_one OD; rfl; rfl; rfl; rfl; intro yE HE; have KE : Hid (Fm w [(w.heap.size, C, 29), (w.heap.size + 1, o6 OD, 49), (bo, o6 OD, 49)] yE) := K2.out.put 1 _ _ _ _ rfl HE.out))
    exact ret_two rtO rfl rfl rfl (KE.out.bx 1 _ _ _ rfl) rfl rfl ⟨rfl, KE.out.low⟩

theorem next_order (w : World) (C : Array Value) (g : Gm) (hg : Hid (GL w C g)) (hm : Hid (g.may = true)) (hf : fitG g.pc 2 = true) (WD : Nat) (OD : Od) (hWD : wordG g = WD) (hOD : decO WD = OD) (hdb : Hid (decB WD = true)) (hop : Hid (OD.op ≠ 1)) :
    Calls Try.prog 14 #[.agg C] w fun e w' => e = .returned (.tuple #[.agg (o6 OD), .int .u8 1]) ∧ Below w.heap.size w w' := by
  have gC : Hid (C.size = 23) := hg.out.size.1
  obtain ⟨OZ, hOZ⟩ : ∃ x : Array Value, Hid (x = #[.int .u8 0, .int .u8 0, .int .u8 0, .int .u8 0, .int .u8 0, .int .u16 0]) := ⟨_, (rfl : (#[.int .u8 0, .int .u8 0, .int .u8 0, .int .u8 0, .int .u8 0, .int .u16 0] : Array Value) = _)⟩
  have hOZ' : Hid (OZ.size = 6) := by show _ = _; rw [hOZ.out]; rfl
  have hpl := fun y => places_any y g.pc 2 hg.out.2.pc (by decide) (by decide)
  rw [hf, if_pos rfl] at hpl
  have hf2 : 512 ≤ g.pc ∧ g.pc + 2 ≤ 3744 := by unfold fitG at hf; simpa using hf
  have hml := (may_iff.1 hm.out).2.1
  obtain ⟨⟨sS, sP, sM, cS, cP, cM, hC, h1, h2, h3⟩, ok⟩ := hg.out
  obtain ⟨gM, oM, rfl⟩ := lb_some h3 (by omega)
  have fC : Hid (C[17]? = some (.int .u16 (g.pc : Int)) ∧ C[22]? = some (.slice (some ⟨gM, oM, none⟩) 3232 cM)) := by rw [hC, hml]; exact ⟨rfl, rfl⟩
  obtain ⟨at_, hat⟩ : ∃ x, g.pc - 512 = x := ⟨_, rfl⟩
  obtain ⟨at1, hat1⟩ : ∃ x, at_ + 1 = x := ⟨_, rfl⟩
  have ca := lb_at h3 at_ (by omega)
  have cb := lb_at h3 at1 (by omega)
  obtain ⟨H, hH⟩ : ∃ x, (g.me.getD at_ 0).toNat = x := ⟨_, rfl⟩
  obtain ⟨L, hL⟩ : ∃ x, (g.me.getD at1 0).toNat = x := ⟨_, rfl⟩
  have lH := (g.me.getD at_ 0).toNat_lt
  have lL := (g.me.getD at1 0).toNat_lt
  rw [hH] at ca lH
  rw [hL] at cb lL
  have eWD : WD = H * 256 + L := by rw [← hWD]; unfold wordG; rw [show g.pc + 1 - 512 = at1 by omega, hat, hH, hL]
  have hdec := fun y => decode_any y WD (by omega)
  rw [hdb.out, hOD] at hdec
  obtain ⟨DB, hDB⟩ : ∃ x, x = true := ⟨_, rfl⟩
  rw [← hDB] at hdec
  obtain ⟨HH, hHH⟩ : ∃ x, H * 256 = x := ⟨_, rfl⟩
  have hsh : Op.shift .shl .u16 (H : Int) .u64 8 = pure (.int .u16 (HH : Int)) := by
    unfold Op.shift
    rw [if_neg (by decide)]
    simp only [IntKind.bits, show Int.toNat 8 = 8 from rfl, show Nat.min 8 16 = 8 from rfl]
    rw [IntKind.wrap_u16]
    congr 2
    show (H : Int) * 2 ^ 8 % 65536 = _
    omega
  have hor := orNN HH L (by omega) (by omega)
  have e3 : HH ||| L = WD := by
    rw [← hHH, eWD]
    have := Nat.two_pow_add_eq_or_of_lt (i := 8) (b := L) (by omega) H
    rw [show H * 256 = 2 ^ 8 * H by omega]
    exact this.symm
  rw [e3] at hor
  have ia1 := fun v => idxB .i64 gM oM 3232 cM at_ v (by omega)
  have ia2 := fun v => idxB .i64 gM oM 3232 cM at1 v (by omega)
  have ha1 : (at_ : Int) + 1 = (at1 : Int) := by omega
  rw [hat] at hpl
  obtain ⟨p, hp⟩ : ∃ p, g.pc = p := ⟨_, rfl⟩
  rw [hp] at hpl fC hf2
  have i1 : (at_ : Int) ≤ 3231 := by omega
  have i2 : (at1 : Int) ≤ 3231 := by omega
  have i3 : (p : Int) < 65536 := by omega
  have i4 : (H : Int) < 256 := by omega
  have i5 : (L : Int) < 256 := by omega
  have i6 : (HH : Int) < 65536 := by omega
  have cc0 : Hid (w.cell? ⟨gM, oM + at_, none⟩ = some (.int .u8 (H : Int)) ∧ w.cell? ⟨gM, oM + at1, none⟩ = some (.int .u8 (L : Int))) := ⟨ca, cb⟩
  clear hf hC h1 h2 h3 ok hml hat hat1 ca cb hH hL lH lL hWD eWD hOD hHH e3 hp hf2
  go_enter Try.func14, Try.ntmps14
  go_upto_region 6 with (first
      | ((with_reducible refine gen_world ((w.alloc (.cells C 29)).alloc (.cells #[.int .u8 0, .int .u8 0, .int .u8 0, .int .u8 0, .int .u8 0, .int .u16 0] 49)) (Fm w [(w.heap.size, C, 29), (w.heap.size + 1, OZ, 49)]) ?_ ?_); (rw [hOZ.out]; exact Fm.two w _ _ _ _); intro y0 K0)
      | ((with_reducible refine at_load rtG w.heap.size C ?_ ?_ (.tmp 1) ?_ ?_ ?_ ?_); exact K0.out.bx 0 _ _ _ rfl; exact gC.out; kernel_rfl; rfl; rfl)
      | (go_at_call 12; refine (check_gl y0 C g (hg.out.below K0.out.low)).mono ?_; rintro e y1 ⟨rfl, H1⟩; have K1 : Hid (Fm w [(w.heap.size, C, 29), (w.heap.size + 1, OZ, 49)] y1) := K0.out.below H1; rw [hm.out]; have c17 := (K1.out.bx 0 _ _ _ rfl).c 17 _ fC.out.1)
      | (go_at_call 17; refine (hpl y1).mono ?_; rintro e y2 ⟨rfl, e1⟩; replace e1 := e1.symm; subst e1))
  go_cut [6, 7] (fun pp tt wz => ∃ (bo : Nat) (y : World), y = wz ∧ pp = .pointer (some ⟨bo, 0, none⟩) ∧ tt = .bool DB ∧ Hid (Fm w [(w.heap.size, C, 29), (w.heap.size + 1, OZ, 49), (bo, o6 OD, 49)] y))
  case first =>
    have cc : Hid (∀ k, Below y1.heap.size y1 k → k.cell? ⟨w.heap.size, 22, none⟩ = some (.slice (some ⟨gM, oM, none⟩) 3232 cM) ∧ k.cell? ⟨gM, oM + at_, none⟩ = some (.int .u8 (H : Int)) ∧ k.cell? ⟨gM, oM + at1, none⟩ = some (.int .u8 (L : Int))) := fun k hk => by
      have K2 := K1.out.below hk
      have q1 := World.block_lt_of_cell? w _ cc0.out.1
      exact ⟨(K2.bx 0 _ _ _ rfl).c 22 _ fC.out.2, (World.cell?_of_block (w := w) (a := ⟨gM, oM + at_, none⟩) (K2.low.block gM q1)).trans cc0.out.1, (World.cell?_of_block (w := w) (a := ⟨gM, oM + at1, none⟩) (K2.low.block gM q1)).trans cc0.out.2⟩
    have Kz0 : Hid (Below y1.heap.size y1 y1.drew ∧ True) := ⟨below_drew (Below.refl _ _), trivial⟩
    refine wp_region_held_drew (S := fun y => Below y1.heap.size y1 y) (by kernel_rfl) Kz0.out.1 (fun hH => ?_)
    generalize y1.drew = z0 at hH Kz0 ⊢
    refine wpAnyH_take (i := 0) (oi := ⟨some 22, _, _, _, _, _⟩) (v := .pointer (some ⟨w.heap.size, 22, none⟩)) rfl (by kernel_rfl) (by kernel_rfl) (by kernel_rfl) (fun _ _ _ h => h) (.inl ⟨by kernel_rfl, fun k hk => by go_simp⟩) hH ?_
    try simp only [Act.put, List.setIfInBounds_toArray, List.set_cons_zero, List.set_cons_succ]
    refine wpAnyH_take (i := 1) (oi := ⟨some 23, _, _, _, _, _⟩) (v := .slice (some ⟨gM, oM, none⟩) 3232 cM) rfl (by kernel_rfl) (by kernel_rfl) (by kernel_rfl) (fun _ _ _ h => h) (.inl ⟨by kernel_rfl, fun k hk => by have d := (cc.out k hk).1; go_simp⟩) hH ?_
    try simp only [Act.put, List.setIfInBounds_toArray, List.set_cons_zero, List.set_cons_succ]
    refine wpAnyH_take (i := 2) (oi := ⟨some 24, _, _, _, _, _⟩) (v := .int .i64 (at_ : Int)) rfl (by kernel_rfl) (by kernel_rfl) (by kernel_rfl) (fun _ _ _ h => h) (.inl ⟨by kernel_rfl, fun k hk => by go_simp⟩) hH ?_
    try simp only [Act.put, List.setIfInBounds_toArray, List.set_cons_zero, List.set_cons_succ]
    refine wpAnyH_take (i := 3) (oi := ⟨some 25, _, _, _, _, _⟩) (v := .pointer (some ⟨gM, oM + at_, none⟩)) rfl (by kernel_rfl) (by kernel_rfl) (by kernel_rfl) (fun _ _ _ h => h) (.inl ⟨by kernel_rfl, fun k hk => by have d := ia1 k; go_simp⟩) hH ?_
    try simp only [Act.put, List.setIfInBounds_toArray, List.set_cons_zero, List.set_cons_succ]
    refine wpAnyH_take (i := 4) (oi := ⟨some 26, _, _, _, _, _⟩) (v := .int .u8 (H : Int)) rfl (by kernel_rfl) (by kernel_rfl) (by kernel_rfl) (fun _ _ _ h => h) (.inl ⟨by kernel_rfl, fun k hk => by have d := (cc.out k hk).2.1; go_simp⟩) hH ?_
    try simp only [Act.put, List.setIfInBounds_toArray, List.set_cons_zero, List.set_cons_succ]
    refine wpAnyH_take (i := 5) (oi := ⟨some 27, _, _, _, _, _⟩) (v := .int .u16 (H : Int)) rfl (by kernel_rfl) (by kernel_rfl) (by kernel_rfl) (fun _ _ _ h => h) (.inl ⟨by kernel_rfl, fun k hk => by go_simp; exact wrapn16 H (by omega)⟩) hH ?_
    try simp only [Act.put, List.setIfInBounds_toArray, List.set_cons_zero, List.set_cons_succ]
    refine wpAnyH_take (i := 6) (oi := ⟨some 28, _, _, _, _, _⟩) (v := .int .u16 (HH : Int)) rfl (by kernel_rfl) (by kernel_rfl) (by kernel_rfl) (fun _ _ _ h => h) (.inl ⟨by kernel_rfl, fun k hk => by have d := hsh; go_simp⟩) hH ?_
    try simp only [Act.put, List.setIfInBounds_toArray, List.set_cons_zero, List.set_cons_succ]
    refine wpAnyH_take (i := 7) (oi := ⟨some 29, _, _, _, _, _⟩) (v := .pointer (some ⟨w.heap.size, 22, none⟩)) rfl (by kernel_rfl) (by kernel_rfl) (by kernel_rfl) (fun _ _ _ h => h) (.inl ⟨by kernel_rfl, fun k hk => by go_simp⟩) hH ?_
    try simp only [Act.put, List.setIfInBounds_toArray, List.set_cons_zero, List.set_cons_succ]
    refine wpAnyH_take (i := 8) (oi := ⟨some 30, _, _, _, _, _⟩) (v := .slice (some ⟨gM, oM, none⟩) 3232 cM) rfl (by kernel_rfl) (by kernel_rfl) (by kernel_rfl) (fun _ _ _ h => h) (.inl ⟨by kernel_rfl, fun k hk => by have d := (cc.out k hk).1; go_simp⟩) hH ?_
    try simp only [Act.put, List.setIfInBounds_toArray, List.set_cons_zero, List.set_cons_succ]
    refine wpAnyH_take (i := 9) (oi := ⟨some 31, _, _, _, _, _⟩) (v := .int .i64 (at_ : Int)) rfl (by kernel_rfl) (by kernel_rfl) (by kernel_rfl) (fun _ _ _ h => h) (.inl ⟨by kernel_rfl, fun k hk => by go_simp⟩) hH ?_
    try simp only [Act.put, List.setIfInBounds_toArray, List.set_cons_zero, List.set_cons_succ]
    refine wpAnyH_take (i := 10) (oi := ⟨some 32, _, _, _, _, _⟩) (v := .int .i64 (at1 : Int)) rfl (by kernel_rfl) (by kernel_rfl) (by kernel_rfl) (fun _ _ _ h => h) (.inl ⟨by kernel_rfl, fun k hk => by have d := ha1; go_simp; rw [IntKind.wrap_i64]; omega⟩) hH ?_
    try simp only [Act.put, List.setIfInBounds_toArray, List.set_cons_zero, List.set_cons_succ]
    refine wpAnyH_take (i := 11) (oi := ⟨some 33, _, _, _, _, _⟩) (v := .pointer (some ⟨gM, oM + at1, none⟩)) rfl (by kernel_rfl) (by kernel_rfl) (by kernel_rfl) (fun _ _ _ h => h) (.inl ⟨by kernel_rfl, fun k hk => by have d := ia2 k; go_simp⟩) hH ?_
    try simp only [Act.put, List.setIfInBounds_toArray, List.set_cons_zero, List.set_cons_succ]
    refine wpAnyH_take (i := 12) (oi := ⟨some 34, _, _, _, _, _⟩) (v := .int .u8 (L : Int)) rfl (by kernel_rfl) (by kernel_rfl) (by kernel_rfl) (fun _ _ _ h => h) (.inl ⟨by kernel_rfl, fun k hk => by have d := (cc.out k hk).2.2; go_simp⟩) hH ?_
    try simp only [Act.put, List.setIfInBounds_toArray, List.set_cons_zero, List.set_cons_succ]
    refine wpAnyH_take (i := 13) (oi := ⟨some 35, _, _, _, _, _⟩) (v := .int .u16 (L : Int)) rfl (by kernel_rfl) (by kernel_rfl) (by kernel_rfl) (fun _ _ _ h => h) (.inl ⟨by kernel_rfl, fun k hk => by go_simp; exact wrapn16 L (by omega)⟩) hH ?_
    try simp only [Act.put, List.setIfInBounds_toArray, List.set_cons_zero, List.set_cons_succ]
    refine wpAnyH_take (i := 14) (oi := ⟨some 36, _, _, _, _, _⟩) (v := .int .u16 (WD : Int)) rfl (by kernel_rfl) (by kernel_rfl) (by kernel_rfl) (fun _ _ _ h => h) (.inl ⟨by kernel_rfl, fun k hk => by have d := hor; go_simp⟩) hH ?_
    try simp only [Act.put, List.setIfInBounds_toArray, List.set_cons_zero, List.set_cons_succ]
    refine wpAnyH_ready (rs := [15, 19]) (by kernel_rfl) (by simp) (fun i hi => ?_)
    rcases List.mem_cons.1 hi with rfl | hi
    · clear hi
      refine wpOp_list (o := ⟨some 37, _, _, _, _, _⟩) rfl ?_
      go_wp2_with (go_at_call 18; refine (hdec z0).mono ?_; rintro e z1 ⟨rfl, H⟩; have Kz1 : Hid (Below y1.heap.size y1 z1 ∧ Below z0.heap.size z0 z1) := ⟨Kz0.out.1.trans (H.mono Kz0.out.1.size), H⟩; clear H)
      refine ⟨Kz1.out.1, ?_⟩
      replace hH := Kz1.out.1
      try simp only [Act.put, List.setIfInBounds_toArray, List.set_cons_zero, List.set_cons_succ]
      refine wpAnyH_take (i := 16) (oi := ⟨some 21, _, _, _, _, _⟩) (v := .tuple #[.agg (o6 OD), .bool DB]) rfl (by kernel_rfl) (by kernel_rfl) (by kernel_rfl) (fun _ _ _ h => h) (.inl ⟨by kernel_rfl, fun k hk => by go_simp⟩) hH ?_
      try simp only [Act.put, List.setIfInBounds_toArray, List.set_cons_zero, List.set_cons_succ]
      refine wpAnyH_take (i := 17) (oi := ⟨some 38, _, _, _, _, _⟩) (v := .agg (o6 OD)) rfl (by kernel_rfl) (by kernel_rfl) (by kernel_rfl) (fun _ _ _ h => h) (.inl ⟨by kernel_rfl, fun k hk => by go_simp⟩) hH ?_
      try simp only [Act.put, List.setIfInBounds_toArray, List.set_cons_zero, List.set_cons_succ]
      refine wpAnyH_take (i := 18) (oi := ⟨some 39, _, _, _, _, _⟩) (v := .bool DB) rfl (by kernel_rfl) (by kernel_rfl) (by kernel_rfl) (fun _ _ _ h => h) (.inl ⟨by kernel_rfl, fun k hk => by go_simp⟩) hH ?_
      try simp only [Act.put, List.setIfInBounds_toArray, List.set_cons_zero, List.set_cons_succ]
      refine wpAnyH_ready (rs := [19]) (by kernel_rfl) (by simp) (fun i hi => ?_)
      obtain rfl := List.mem_singleton.1 hi
      clear hi
      refine wpOp_list (o := ⟨some 6, _, _, _, _, _⟩) rfl ?_
      refine at_al rfl rfl ?_
      have Kz2 : Hid (Below y1.heap.size y1 (z1.alloc (.cells #[.int .u8 0, .int .u8 0, .int .u8 0, .int .u8 0, .int .u8 0, .int .u16 0] 49)) ∧ Bx (z1.alloc (.cells #[.int .u8 0, .int .u8 0, .int .u8 0, .int .u8 0, .int .u8 0, .int .u16 0] 49)) z1.heap.size #[.int .u8 0, .int .u8 0, .int .u8 0, .int .u8 0, .int .u8 0, .int .u16 0] 49) := ⟨Kz1.out.1.trans ((below1 z1 _).mono Kz1.out.1.size), one_bxL z1 _ _⟩
      refine ⟨Kz2.out.1, ?_⟩
      replace hH := Kz2.out.1
      obtain ⟨bo, hbo⟩ : ∃ bo, z1.heap.size = bo := ⟨_, rfl⟩
      have lbo : Hid (y1.heap.size ≤ bo) := by rw [← hbo]; exact Kz1.out.1.size
      generalize z1.alloc (.cells #[.int .u8 0, .int .u8 0, .int .u8 0, .int .u8 0, .int .u8 0, .int .u16 0] 49) = z2 at hH Kz2 ⊢
      rw [hbo] at Kz2 ⊢
      clear hbo
      try simp only [Act.put, List.setIfInBounds_toArray, List.set_cons_zero, List.set_cons_succ]
      have Kbx : Hid (Bx z2 bo #[.int .u8 0, .int .u8 0, .int .u8 0, .int .u8 0, .int .u8 0, .int .u16 0] 49) := Kz2.out.2
      refine wpAnyH_ready (rs := [20]) (by kernel_rfl) (by simp) (fun i hi => ?_)
      obtain rfl := List.mem_singleton.1 hi
      clear hi
      refine wpOp_list (o := ⟨none, _, _, _, _, _⟩) rfl ?_
      refine at_st rtO bo #[.int .u8 0, .int .u8 0, .int .u8 0, .int .u8 0, .int .u8 0, .int .u16 0] (o6 OD) Kbx.out rfl rfl (o6_one OD) (.tmp 6) (.tmp 38) rfl rfl rfl rfl ?_
      intro zE HE
      have KzE : Hid (Below y1.heap.size y1 zE) := Kz2.out.1.trans (HE.out.2.1 _ lbo.out)
      refine ⟨KzE.out, ?_⟩
      replace hH := KzE.out
      try simp only [Act.put]
      refine wpAnyH_take (i := 21) (oi := ⟨some 7, _, _, _, _, _⟩) (v := .bool DB) rfl (by kernel_rfl) (by kernel_rfl) (by kernel_rfl) (fun _ _ _ h => h) (.inl ⟨by kernel_rfl, fun k hk => by go_simp⟩) hH ?_
      try simp only [Act.put, List.setIfInBounds_toArray, List.set_cons_zero, List.set_cons_succ]
      refine wpAnyH_done (by kernel_rfl) ?_ _
      try go_wp2
      go_meet
      exact ⟨bo, zE, rfl, rfl, rfl, (K1.out.below KzE.out).add2 lbo.out K1.out.lts K1.out.low.size HE.out.1⟩
    · obtain rfl := List.mem_singleton.1 hi
      clear hi
      refine wpOp_list (o := ⟨some 6, _, _, _, _, _⟩) rfl ?_
      refine at_al rfl rfl ?_
      have Kz1 : Hid (Below y1.heap.size y1 (z0.alloc (.cells #[.int .u8 0, .int .u8 0, .int .u8 0, .int .u8 0, .int .u8 0, .int .u16 0] 49)) ∧ Bx (z0.alloc (.cells #[.int .u8 0, .int .u8 0, .int .u8 0, .int .u8 0, .int .u8 0, .int .u16 0] 49)) z0.heap.size #[.int .u8 0, .int .u8 0, .int .u8 0, .int .u8 0, .int .u8 0, .int .u16 0] 49) := ⟨Kz0.out.1.trans ((below1 z0 _).mono Kz0.out.1.size), one_bxL z0 _ _⟩
      refine ⟨Kz1.out.1, ?_⟩
      replace hH := Kz1.out.1
      obtain ⟨bo, hbo⟩ : ∃ bo, z0.heap.size = bo := ⟨_, rfl⟩
      have lbo : Hid (y1.heap.size ≤ bo) := by rw [← hbo]; exact Kz0.out.1.size
      generalize z0.alloc (.cells #[.int .u8 0, .int .u8 0, .int .u8 0, .int .u8 0, .int .u8 0, .int .u16 0] 49) = z1 at hH Kz1 ⊢
      rw [hbo] at Kz1 ⊢
      clear hbo
      try simp only [Act.put, List.setIfInBounds_toArray, List.set_cons_zero, List.set_cons_succ]
      refine wpAnyH_ready (rs := [15]) (by kernel_rfl) (by simp) (fun i hi => ?_)
      obtain rfl := List.mem_singleton.1 hi
      clear hi
      refine wpOp_list (o := ⟨some 37, _, _, _, _, _⟩) rfl ?_
      go_wp2_with (go_at_call 18; refine (hdec z1).mono ?_; rintro e z2 ⟨rfl, H⟩; have Kz2 : Hid (Below y1.heap.size y1 z2 ∧ Below z1.heap.size z1 z2) := ⟨Kz1.out.1.trans (H.mono Kz1.out.1.size), H⟩; clear H)
      refine ⟨Kz2.out.1, ?_⟩
      replace hH := Kz2.out.1
      try simp only [Act.put, List.setIfInBounds_toArray, List.set_cons_zero, List.set_cons_succ]
      refine wpAnyH_take (i := 16) (oi := ⟨some 21, _, _, _, _, _⟩) (v := .tuple #[.agg (o6 OD), .bool DB]) rfl (by kernel_rfl) (by kernel_rfl) (by kernel_rfl) (fun _ _ _ h => h) (.inl ⟨by kernel_rfl, fun k hk => by go_simp⟩) hH ?_
      try simp only [Act.put, List.setIfInBounds_toArray, List.set_cons_zero, List.set_cons_succ]
      refine wpAnyH_take (i := 17) (oi := ⟨some 38, _, _, _, _, _⟩) (v := .agg (o6 OD)) rfl (by kernel_rfl) (by kernel_rfl) (by kernel_rfl) (fun _ _ _ h => h) (.inl ⟨by kernel_rfl, fun k hk => by go_simp⟩) hH ?_
      try simp only [Act.put, List.setIfInBounds_toArray, List.set_cons_zero, List.set_cons_succ]
      refine wpAnyH_take (i := 18) (oi := ⟨some 39, _, _, _, _, _⟩) (v := .bool DB) rfl (by kernel_rfl) (by kernel_rfl) (by kernel_rfl) (fun _ _ _ h => h) (.inl ⟨by kernel_rfl, fun k hk => by go_simp⟩) hH ?_
      try simp only [Act.put, List.setIfInBounds_toArray, List.set_cons_zero, List.set_cons_succ]
      have Kbx : Hid (Bx z2 bo #[.int .u8 0, .int .u8 0, .int .u8 0, .int .u8 0, .int .u8 0, .int .u16 0] 49) := (Kz2.out.2.block bo (heap_lt Kz1.out.2)).trans Kz1.out.2
      refine wpAnyH_ready (rs := [20]) (by kernel_rfl) (by simp) (fun i hi => ?_)
      obtain rfl := List.mem_singleton.1 hi
      clear hi
      refine wpOp_list (o := ⟨none, _, _, _, _, _⟩) rfl ?_
      refine at_st rtO bo #[.int .u8 0, .int .u8 0, .int .u8 0, .int .u8 0, .int .u8 0, .int .u16 0] (o6 OD) Kbx.out rfl rfl (o6_one OD) (.tmp 6) (.tmp 38) rfl rfl rfl rfl ?_
      intro zE HE
      have KzE : Hid (Below y1.heap.size y1 zE) := Kz2.out.1.trans (HE.out.2.1 _ lbo.out)
      refine ⟨KzE.out, ?_⟩
      replace hH := KzE.out
      try simp only [Act.put]
      refine wpAnyH_take (i := 21) (oi := ⟨some 7, _, _, _, _, _⟩) (v := .bool DB) rfl (by kernel_rfl) (by kernel_rfl) (by kernel_rfl) (fun _ _ _ h => h) (.inl ⟨by kernel_rfl, fun k hk => by go_simp⟩) hH ?_
      try simp only [Act.put, List.setIfInBounds_toArray, List.set_cons_zero, List.set_cons_succ]
      refine wpAnyH_done (by kernel_rfl) ?_ _
      try go_wp2
      go_meet
      exact ⟨bo, zE, rfl, rfl, rfl, (K1.out.below KzE.out).add2 lbo.out K1.out.lts K1.out.low.size HE.out.1⟩

  case rest =>
    subst hDB
    obtain ⟨bo, y2, rfl, rfl, rfl, K2⟩ := hcut
    have cop := (K2.out.bx 2 _ _ _ rfl).c 0 (.int .u8 (OD.op : Int)) rfl
    obtain ⟨q, hq⟩ : ∃ q, OD.op = q := ⟨_, rfl⟩
    have qq : ((q : Int) == 1) = false := by
      rw [← hq]
      have := hop.out
      simp
      omega
    rw [hq] at cop
    clear hq
    go_wp2_with (first
      | ((with_reducible refine at_load rtO bo (o6 OD) ?_ ?_ (.tmp 6) ?_ ?_ ?_ ?_); exact K2.out.bx 2 _ _ _ rfl; rfl; kernel_rfl; rfl; rfl)
      | ((with_reducible refine at_st rtO (w.heap.size + 1) OZ (o6 OD) ?_ ?_ ?_ ?_ (.tmp 2) (.tmp 47) ?_ ?_ ?_ ?_ ?_); exact K2.out.bx 1 _ _ _ rfl; exact hOZ'.out; rfl; exact o6_one OD; rfl; rfl; rfl; rfl; intro yE HE; have KE : Hid (Fm w [(w.heap.size, C, 29), (w.heap.size + 1, o6 OD, 49), (bo, o6 OD, 49)] yE) := K2.out.put 1 _ _ _ _ rfl HE.out))
    exact ret_two rtO rfl rfl rfl (KE.out.bx 1 _ _ _ rfl) rfl rfl ⟨rfl, KE.out.low⟩

end Go.Proofs.Ytfkifppadngmdaa
