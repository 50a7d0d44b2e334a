/- The document's own: Decode, its walk. -/
import Derived.Test.YthaijjehplomfaaDoorJ22
import Derived.Deep.Cut
namespace Go.Proofs.YthaijjehplomfaaDoor
open Go Go.RowKit
set_option linter.unusedVariables false
set_option maxHeartbeats 2000000
set_option maxRecDepth 100000

theorem Fm.add {w : World} {l : List (Nat × Array Value × TypeId)} {y y' : World} (h : Fm w l y) (hb : Below y.heap.size y y') {g : Nat} {cs : Array Value} {t : TypeId} (hg : y.heap.size ≤ g) (k : Bx y' g cs t) : Fm w (l ++ [(g, cs, t)]) y' := by
  have hb' := h.below hb
  have key : ∀ (i b : Nat) (cs' : Array Value) (t' : TypeId), (l ++ [(g, cs, t)])[i]? = some (b, cs', t') → l[i]? = some (b, cs', t') ∧ i < l.length ∨ i = l.length ∧ b = g ∧ cs' = cs ∧ t' = t := by
    intro i b cs' t' e
    rcases Nat.lt_or_ge i l.length with hi | hi
    · rw [List.getElem?_append_left hi] at e
      exact .inl ⟨e, hi⟩
    · rw [List.getElem?_append_right hi] at e
      rcases Nat.eq_or_lt_of_le hi with h0 | h0
      · rw [← h0, Nat.sub_self] at e
        simp at e
        exact .inr ⟨h0.symm, e.1.symm, e.2.1.symm, e.2.2.symm⟩
      · rw [List.getElem?_eq_none (by simp; omega)] at e
        cases e
  refine ⟨fun i b cs' t' e => ?_, fun i b cs' t' e => ?_, fun i j b c1 c2 t1 t2 e1 e2 => ?_, hb'.low⟩
  · rcases key i b cs' t' e with ⟨k', _⟩ | ⟨_, rfl, rfl, rfl⟩
    · exact hb'.get i b cs' t' k'
    · exact k
  · rcases key i b cs' t' e with ⟨k', _⟩ | ⟨_, rfl, rfl, rfl⟩
    · exact h.ge i b cs' t' k'
    · exact Nat.le_trans h.low.size hg
  · rcases key i b c1 t1 e1 with ⟨k1, l1⟩ | ⟨k1, kb, _⟩ <;> rcases key j b c2 t2 e2 with ⟨k2, l2⟩ | ⟨k2, kb2, _⟩
    · exact h.ne i j b c1 c2 t1 t2 k1 k2
    · exact absurd (heap_lt (h.get i b c1 t1 k1)) (by omega)
    · exact absurd (heap_lt (h.get j b c2 t2 k2)) (by omega)
    · omega
theorem rdec_any (w : World) (v : Nat) (hv : v < 65536) : Calls Tryd.prog 7 #[.int .u16 (v : Int)] w fun e w' => e = .returned (.tuple #[.agg (o6 (decO v)), .bool (decB v)]) ∧ Below w.heap.size w w' := by
  have hv' : Hid (v < 65536) := hv
  have vi : (v : Int) < 65536 := by omega
  obtain ⟨WT, hWT⟩ : ∃ x : Array Value, Hid (x = (rowL dwC ((List.range 31).map dR)).toArray) := ⟨_, (rfl : (rowL dwC ((List.range 31).map dR)).toArray = (rowL dwC ((List.range 31).map dR)).toArray)⟩
  obtain ⟨RO, hRO⟩ : ∃ x, Hid (o6 (decO v) = x) := ⟨_, (rfl : o6 (decO v) = _)⟩
  obtain ⟨RB, hRB⟩ : ∃ x, Hid (decB v = x) := ⟨_, (rfl : decB v = _)⟩
  rw [hRO.out, hRB.out]
  clear hv
  go_enter Tryd.func7, Tryd.ntmps7
  go_wp2_with (first
    | ((with_reducible refine gen_world (w.alloc (.cells #[.int .u8 0, .int .u8 0, .int .u8 0, .int .u8 0, .int .u8 0, .int .u16 0] 30)) (Fm w [(w.heap.size, #[.int .u8 0, .int .u8 0, .int .u8 0, .int .u8 0, .int .u8 0, .int .u16 0], 30)]) ?_ ?_); exact Fm.one w _ _; intro y0 K0)
    | (go_at_call 21; refine (rWords_any y0).mono ?_; rintro e y1 ⟨rfl, H⟩; have K1 : Hid (Fm w [(w.heap.size, #[.int .u8 0, .int .u8 0, .int .u8 0, .int .u8 0, .int .u8 0, .int .u16 0], 30), (y0.heap.size, WT, 64)] y1) := K0.out.add H.out.2 (Nat.le_refl _) (by rw [hWT.out]; exact H.out.1); clear H))
  generalize y0.heap.size = gW at K1 ⊢
  go_loopw [5] (fun kv wz => ∃ (k : Nat) (z : Int) (u : World), u = wz ∧ kv = .int .i64 z ∧ Hid (z = (k : Int) - 1 ∧ k ≤ 31) ∧ Hid (Fm w [(w.heap.size, #[.int .u8 0, .int .u8 0, .int .u8 0, .int .u8 0, .int .u8 0, .int .u16 0], 30), (gW, WT, 64)] u ∧ ∀ j, k ≤ j → j < 31 → takR (dR j) v = false)) (fun kv _ => (intOf kv + 1).toNat)
  case atStart => exact ⟨31, 30, _, rfl, rfl, ⟨by decide, by decide⟩, ⟨K1.out, fun j h1 h2 => by omega⟩⟩
  case round =>
    obtain ⟨k, z, u0, rfl, rfl, hz, K⟩ := hrel
    obtain ⟨hz1, hk31⟩ := hz.out
    clear hz K0
    rcases k with _ | m
    · obtain rfl : z = -1 := by omega
      have fin : Hid (o6 (decO v) = #[.int .u8 0, .int .u8 0, .int .u8 0, .int .u8 0, .int .u8 0, .int .u16 0] ∧ decB v = false) := by
        have h := dec_notf v (fun j hj => K.out.2 j (by omega) hj)
        exact ⟨by rw [h.1]; rfl, h.2⟩
      clear hz1 hk31
      go_wp2_with (first
        | ((with_reducible refine at_bu #[] [] #[.int .u8 0, .int .u8 0, .int .u8 0, .int .u8 0, .int .u8 0, .int .u16 0] ?_ ?_ ?_ builtO0 ?_); kernel_rfl; rfl; rfl)
        | ((with_reducible refine at_st rtO w.heap.size #[.int .u8 0, .int .u8 0, .int .u8 0, .int .u8 0, .int .u8 0, .int .u16 0] #[.int .u8 0, .int .u8 0, .int .u8 0, .int .u8 0, .int .u8 0, .int .u16 0] ?_ ?_ ?_ ?_ (.tmp 2) (.tmp 42) ?_ ?_ ?_ ?_ ?_); exact K.out.1.bx 0 _ _ _ rfl; rfl; rfl; (simp [Value.oneCell']); rfl; rfl; rfl; rfl; intro yE HE; have KE : Hid (Fm w [(w.heap.size, #[.int .u8 0, .int .u8 0, .int .u8 0, .int .u8 0, .int .u8 0, .int .u16 0], 30), (gW, WT, 64)] yE) := K.out.1.put 0 _ _ _ _ rfl HE.out))
      exact ret_two rtO rfl rfl rfl (KE.out.bx 0 _ _ _ rfl) rfl rfl ⟨by rw [← hRO.out, ← hRB.out, fin.out.1, fin.out.2]; rfl, KE.out.low⟩
    · obtain rfl : z = (m : Int) := by omega
      have hm31 : m < 31 := by omega
      have hm' : Hid (m < 31) := hm31
      have mi : (m : Int) < 31 := by omega
      have q0 : decide ((0 : Int) ≤ (m : Int)) = true := by simp
      have hgW : Hid (gW < u0.heap.size) := heap_lt (K.out.1.bx 1 _ _ _ rfl)
      obtain ⟨p, hp⟩ : ∃ x, m * 4 = x := ⟨_, rfl⟩
      have ix := fun v => idxP (g := gW) (off := 0) (len := 31) (cap := 31) Tryd.underlying61 (s := 4) (by kernel_rfl) .i64 m v hm31
      simp only [Nat.zero_add] at ix
      rw [hp] at ix
      obtain ⟨V, hV, hw0⟩ := wrd_any (dR m) v (dR_lt m hm31) hv'.out
      have ho0 := fun u => ord_any u (dR m) v (dR_lt m hm31) hv'.out
      obtain ⟨op, hop⟩ : ∃ x, opR (dR m) = x := ⟨_, rfl⟩
      obtain ⟨DC, hD0⟩ : ∃ x, x = (dwC (dR m)).toArray := ⟨_, rfl⟩
      obtain ⟨OC, hO0⟩ : ∃ x, x = o6 (ordR (dR m) v) := ⟨_, rfl⟩
      have hR : Hid (∀ u, Bx u gW WT 64 → u.rangeAt gW p DC.toList) := fun u h => by rw [hD0, ← hp]; rw [hWT.out] at h; exact dw_at h m hm'.out
      have hR0 : Hid (∀ u, Bx u gW WT 64 → u.cell? ⟨gW, p, none⟩ = some (.int .u8 (op : Int))) := fun u h => by
        have := hR.out u h 0 (.int .u8 (op : Int)) (by rw [hD0, ← hop]; rfl)
        exact this
      have hDC : Hid (True ∧ DC.size = 4) := ⟨trivial, by rw [hD0]; rfl⟩
      have hOC : Hid (OC.size = 6) := by rw [hO0]; exact (rfl : _ = _)
      have hOC1 : Hid (OC.all (·.oneCell') = true) := by rw [hO0]; exact o6_one _
      have hw : Hid (∀ w, Calls Tryd.prog 23 #[.agg DC, .agg OC] w fun e w' => e = .returned (.int .u16 (V : Int)) ∧ Below w.heap.size w w') := by rw [hD0, hO0]; exact hw0
      have ho : Hid (∀ w, Calls Tryd.prog 22 #[.agg DC, .int .u16 (v : Int)] w fun e w' => e = .returned (.agg OC) ∧ Below w.heap.size w w') := by rw [hD0, hO0]; exact ho0
      have hrow : Hid (takR (dR m) v = true → o6 (decO v) = OC ∧ decB v = true) := fun h => by
        have := dec_found v m hv'.out hm'.out h (fun j h1 h2 => K.out.2 j (by omega) h2)
        exact ⟨by rw [this.1, hO0], this.2⟩
      have hmach : Hid (takR (dR m) v = true → op = 1 → v < 4096) := fun h h1 => by
        have hi2 : dR m = 2 := by
          have := op_row 2 (by decide) (dR m) (dR_lt m hm'.out) (by rw [hop, h1]; rfl)
          exact this
        rw [hi2] at h
        have := tak_nib 2 v (by decide) hv'.out h
        have h0 : wdR 2 = 0 := rfl
        rw [h0] at this
        omega
      clear hD0 hO0 hw0 ho0 hop hp hm31 hz1 hk31
      have nx0 : Hid (takR (dR m) v = false → ∀ j, m ≤ j → j < 31 → takR (dR j) v = false) := fun h j h1 h2 => by
        rcases Nat.eq_or_lt_of_le h1 with e | e
        · rw [← e]; exact h
        · exact K.out.2 j e h2
      go_upto_region 6 with (first
        | ((with_reducible refine at_st rtO u1.heap.size #[.int .u8 0, .int .u8 0, .int .u8 0, .int .u8 0, .int .u8 0, .int .u16 0] OC ?_ ?_ ?_ ?_ (.tmp 6) (.tmp 20) ?_ ?_ ?_ ?_ ?_); exact K2.out.bx 2 _ _ _ rfl; rfl; exact hOC.out; exact hOC1.out; rfl; rfl; rfl; rfl; intro u3 H3; have K3 : Hid (Fm w [(w.heap.size, #[.int .u8 0, .int .u8 0, .int .u8 0, .int .u8 0, .int .u8 0, .int .u16 0], 30), (gW, WT, 64), (u1.heap.size, OC, 30)] u3) := K2.out.put 2 _ _ _ _ rfl H3.out; clear H3)
        | ((with_reducible refine gen_world (u1.alloc (.cells #[.int .u8 0, .int .u8 0, .int .u8 0, .int .u8 0, .int .u8 0, .int .u16 0] 30)) (Fm w [(w.heap.size, #[.int .u8 0, .int .u8 0, .int .u8 0, .int .u8 0, .int .u8 0, .int .u16 0], 30), (gW, WT, 64), (u1.heap.size, #[.int .u8 0, .int .u8 0, .int .u8 0, .int .u8 0, .int .u8 0, .int .u16 0], 30)]) ?_ ?_); exact Ku.out.new _ _; intro u2 K2)
        | (go_at_call 22; refine (ho.out u0).mono ?_; rintro e u1 ⟨rfl, H⟩; have Ku : Hid (Fm w [(w.heap.size, #[.int .u8 0, .int .u8 0, .int .u8 0, .int .u8 0, .int .u8 0, .int .u16 0], 30), (gW, WT, 64)] u1) := K.out.1.below H; clear H)
        | ((with_reducible refine at_loadm rtW gW p DC ?_ ?_ (.tmp 17) ?_ ?_ ?_ ?_); exact hR.out _ (K.out.1.bx 1 _ _ _ rfl); exact hDC.out.2; kernel_rfl; rfl; rfl))
      rcases ht : takR (dR m) v with _ | _
      · have r1 : ((V : Int) == (v : Int)) = false := by
          have : V ≠ v := fun e => by rw [hV.1 e] at ht; cases ht
          simp; omega
        have nxt : Hid (∀ j, m ≤ j → j < 31 → takR (dR j) v = false) := nx0.out ht
        clear ht hV
        refine region_class_tail 19 (Fm w [(w.heap.size, #[.int .u8 0, .int .u8 0, .int .u8 0, .int .u8 0, .int .u8 0, .int .u16 0], 30), (gW, WT, 64), (u1.heap.size, OC, 30)]) (by kernel_rfl) (by kernel_rfl) K3.out.drew ?_
        simp only [List.take_succ_cons, List.take_zero, List.drop_succ_cons, List.drop_zero]
        with_reducible refine quiet_one (.slice (some ⟨gW, 0, none⟩) 31 31) ?_ ?_ ?_
        · kernel_rfl
        · intro u hy
          go_simp
        with_reducible refine quiet_one (.int .i64 (m : Int)) ?_ ?_ ?_
        · kernel_rfl
        · intro u hy
          go_simp
        with_reducible refine quiet_one (.pointer (some ⟨gW, p, none⟩)) ?_ ?_ ?_
        · kernel_rfl
        · intro u hy
          go_simp
        with_reducible refine quiet_one (.agg DC) ?_ ?_ ?_
        · kernel_rfl
        · intro u hy
          generalize hA : Act.put _ _ _ = A
          have e1 : A.eval (.tmp 23) = .pointer (some ⟨gW, p, none⟩) := by rw [← hA]; go_simp
          clear hA
          exact q_loadm (C := Fm w [(w.heap.size, #[.int .u8 0, .int .u8 0, .int .u8 0, .int .u8 0, .int .u8 0, .int .u16 0], 30), (gW, WT, 64), (u1.heap.size, OC, 30)]) rtW gW p DC (fun _ h => hR.out _ (h.bx 1 _ _ _ rfl)) hDC.out.2 (.tmp 23) rfl e1 u hy
        with_reducible refine quiet_one (.agg OC) ?_ ?_ ?_
        · kernel_rfl
        · intro u hy
          generalize hA : Act.put _ _ _ = A
          have e1 : A.eval (.tmp 6) = .pointer (some ⟨u1.heap.size, 0, none⟩) := by rw [← hA]; go_simp
          clear hA
          exact q_load (C := Fm w [(w.heap.size, #[.int .u8 0, .int .u8 0, .int .u8 0, .int .u8 0, .int .u8 0, .int .u16 0], 30), (gW, WT, 64), (u1.heap.size, OC, 30)]) rtO u1.heap.size OC (fun u' h' => h'.bx 2 _ _ _ rfl) hOC.out (.tmp 6) rfl e1 u hy
        with_reducible refine quiet_one (.int .u16 (V : Int)) ?_ ?_ ?_
        · kernel_rfl
        · intro u hy
          go_simp
          exact (hw.out u).mono fun e u' h' => ⟨h'.1, hy.below h'.2⟩
        with_reducible refine quiet_one (.int .u16 (v : Int)) ?_ ?_ ?_
        · kernel_rfl
        · intro u hy
          go_simp
        with_reducible refine quiet_one (.bool false) ?_ ?_ ?_
        · kernel_rfl
        · intro u hy
          go_simp
        with_reducible refine quiet_one (.bool false) ?_ ?_ ?_
        · kernel_rfl
        · intro u hy
          go_simp
        with_reducible refine quiet_skip ?_ ?_
        · kernel_rfl
        with_reducible refine quiet_skip ?_ ?_
        · kernel_rfl
        with_reducible refine quiet_skip ?_ ?_
        · kernel_rfl
        with_reducible refine quiet_skip ?_ ?_
        · kernel_rfl
        with_reducible refine quiet_skip ?_ ?_
        · kernel_rfl
        with_reducible refine quiet_skip ?_ ?_
        · kernel_rfl
        with_reducible refine quiet_skip ?_ ?_
        · kernel_rfl
        with_reducible refine quiet_skip ?_ ?_
        · kernel_rfl
        with_reducible refine quiet_skip ?_ ?_
        · kernel_rfl
        with_reducible refine quiet_skip ?_ ?_
        · kernel_rfl
        refine wpQuiet_nil ?_
        intro z3 K4
        replace K4 : Hid (Fm w [(w.heap.size, #[.int .u8 0, .int .u8 0, .int .u8 0, .int .u8 0, .int .u8 0, .int .u16 0], 30), (gW, WT, 64), (u1.heap.size, OC, 30)] z3) := K4
        go_simp
        go_wp2
        go_roundw
        case rel => exact ⟨m, (m : Int) - 1, z3, rfl, rfl, ⟨rfl, by have := hm'.out; omega⟩, ⟨K4.out.pre (l' := [_]), nxt.out⟩⟩
        case measure => simp [intOf]
      have r1 : ((V : Int) == (v : Int)) = true := by
        have := hV.2 ht
        simp; omega
      have fin : Hid (RO = OC ∧ RB = true) := by
        have := hrow.out ht
        exact ⟨by rw [← hRO.out]; exact this.1, by rw [← hRB.out]; exact this.2⟩
      by_cases h1 : op = 1
      · have r2 : ((op : Int) != 1) = false := by simp; omega
        have r3 : decide ((v : Int) < 4096) = true := by have := hmach.out ht h1; simp; omega
        have r3' : (v : Int) < 4096 := by have := hmach.out ht h1; omega
        clear ht hV h1
        refine region_class_tail 19 (Fm w [(w.heap.size, #[.int .u8 0, .int .u8 0, .int .u8 0, .int .u8 0, .int .u8 0, .int .u16 0], 30), (gW, WT, 64), (u1.heap.size, OC, 30)]) (by kernel_rfl) (by kernel_rfl) K3.out.drew ?_
        simp only [List.take_succ_cons, List.take_zero, List.drop_succ_cons, List.drop_zero]
        with_reducible refine quiet_one (.slice (some ⟨gW, 0, none⟩) 31 31) ?_ ?_ ?_
        · kernel_rfl
        · intro u hy
          go_simp
        with_reducible refine quiet_one (.int .i64 (m : Int)) ?_ ?_ ?_
        · kernel_rfl
        · intro u hy
          go_simp
        with_reducible refine quiet_one (.pointer (some ⟨gW, p, none⟩)) ?_ ?_ ?_
        · kernel_rfl
        · intro u hy
          go_simp
        with_reducible refine quiet_one (.agg DC) ?_ ?_ ?_
        · kernel_rfl
        · intro u hy
          generalize hA : Act.put _ _ _ = A
          have e1 : A.eval (.tmp 23) = .pointer (some ⟨gW, p, none⟩) := by rw [← hA]; go_simp
          clear hA
          exact q_loadm (C := Fm w [(w.heap.size, #[.int .u8 0, .int .u8 0, .int .u8 0, .int .u8 0, .int .u8 0, .int .u16 0], 30), (gW, WT, 64), (u1.heap.size, OC, 30)]) rtW gW p DC (fun _ h => hR.out _ (h.bx 1 _ _ _ rfl)) hDC.out.2 (.tmp 23) rfl e1 u hy
        with_reducible refine quiet_one (.agg OC) ?_ ?_ ?_
        · kernel_rfl
        · intro u hy
          generalize hA : Act.put _ _ _ = A
          have e1 : A.eval (.tmp 6) = .pointer (some ⟨u1.heap.size, 0, none⟩) := by rw [← hA]; go_simp
          clear hA
          exact q_load (C := Fm w [(w.heap.size, #[.int .u8 0, .int .u8 0, .int .u8 0, .int .u8 0, .int .u8 0, .int .u16 0], 30), (gW, WT, 64), (u1.heap.size, OC, 30)]) rtO u1.heap.size OC (fun u' h' => h'.bx 2 _ _ _ rfl) hOC.out (.tmp 6) rfl e1 u hy
        with_reducible refine quiet_one (.int .u16 (V : Int)) ?_ ?_ ?_
        · kernel_rfl
        · intro u hy
          go_simp
          exact (hw.out u).mono fun e u' h' => ⟨h'.1, hy.below h'.2⟩
        with_reducible refine quiet_one (.int .u16 (v : Int)) ?_ ?_ ?_
        · kernel_rfl
        · intro u hy
          go_simp
        with_reducible refine quiet_one (.bool true) ?_ ?_ ?_
        · kernel_rfl
        · intro u hy
          go_simp
        with_reducible refine quiet_one (.bool true) ?_ ?_ ?_
        · kernel_rfl
        · intro u hy
          go_simp
        with_reducible refine quiet_one (.slice (some ⟨gW, 0, none⟩) 31 31) ?_ ?_ ?_
        · kernel_rfl
        · intro u hy
          go_simp
        with_reducible refine quiet_one (.int .i64 (m : Int)) ?_ ?_ ?_
        · kernel_rfl
        · intro u hy
          go_simp
        with_reducible refine quiet_one (.pointer (some ⟨gW, p, none⟩)) ?_ ?_ ?_
        · kernel_rfl
        · intro u hy
          go_simp
        with_reducible refine quiet_one (.pointer (some ⟨gW, p, none⟩)) ?_ ?_ ?_
        · kernel_rfl
        · intro u hy
          go_simp
        with_reducible refine quiet_one (.int .u8 (op : Int)) ?_ ?_ ?_
        · kernel_rfl
        · intro u hy
          have x := hR0.out _ (hy.bx 1 _ _ _ rfl)
          go_simp
        with_reducible refine quiet_one (.bool false) ?_ ?_ ?_
        · kernel_rfl
        · intro u hy
          go_simp
        with_reducible refine quiet_one (.bool false) ?_ ?_ ?_
        · kernel_rfl
        · intro u hy
          go_simp
        with_reducible refine quiet_one (.int .u16 (v : Int)) ?_ ?_ ?_
        · kernel_rfl
        · intro u hy
          go_simp
        with_reducible refine quiet_one (.bool true) ?_ ?_ ?_
        · kernel_rfl
        · intro u hy
          go_simp
        with_reducible refine quiet_one (.bool true) ?_ ?_ ?_
        · kernel_rfl
        · intro u hy
          go_simp
        refine wpQuiet_nil ?_
        intro z3 K4
        replace K4 : Hid (Fm w [(w.heap.size, #[.int .u8 0, .int .u8 0, .int .u8 0, .int .u8 0, .int .u8 0, .int .u16 0], 30), (gW, WT, 64), (u1.heap.size, OC, 30)] z3) := K4
        go_simp
        go_wp2_with (first
          | ((with_reducible refine at_load rtO u1.heap.size OC ?_ ?_ (.tmp 6) ?_ ?_ ?_ ?_); exact K4.out.bx 2 _ _ _ rfl; exact hOC.out; kernel_rfl; rfl; rfl)
          | ((with_reducible refine at_st rtO w.heap.size #[.int .u8 0, .int .u8 0, .int .u8 0, .int .u8 0, .int .u8 0, .int .u16 0] OC ?_ ?_ ?_ ?_ (.tmp 2) (.tmp 41) ?_ ?_ ?_ ?_ ?_); exact K4.out.bx 0 _ _ _ rfl; rfl; exact hOC.out; exact hOC1.out; rfl; rfl; rfl; rfl; intro yE HE; have KE : Hid (Fm w [(w.heap.size, OC, 30), (gW, WT, 64), (u1.heap.size, OC, 30)] yE) := K4.out.put 0 _ _ _ _ rfl HE.out))
        exact ret_two rtO rfl rfl rfl (KE.out.bx 0 _ _ _ rfl) hOC.out rfl ⟨by rw [fin.out.1, fin.out.2]; rfl, KE.out.low⟩
      obtain ⟨N, hN⟩ : ∃ N, ((op : Int) != 1) = N := ⟨_, rfl⟩
      have hNt : Hid (N = true) := by show N = true; rw [← hN]; simp; omega
      clear ht hV h1
      refine region_class_tail 19 (Fm w [(w.heap.size, #[.int .u8 0, .int .u8 0, .int .u8 0, .int .u8 0, .int .u8 0, .int .u16 0], 30), (gW, WT, 64), (u1.heap.size, OC, 30)]) (by kernel_rfl) (by kernel_rfl) K3.out.drew ?_
      simp only [List.take_succ_cons, List.take_zero, List.drop_succ_cons, List.drop_zero]
      with_reducible refine quiet_one (.slice (some ⟨gW, 0, none⟩) 31 31) ?_ ?_ ?_
      · kernel_rfl
      · intro u hy
        go_simp
      with_reducible refine quiet_one (.int .i64 (m : Int)) ?_ ?_ ?_
      · kernel_rfl
      · intro u hy
        go_simp
      with_reducible refine quiet_one (.pointer (some ⟨gW, p, none⟩)) ?_ ?_ ?_
      · kernel_rfl
      · intro u hy
        go_simp
      with_reducible refine quiet_one (.agg DC) ?_ ?_ ?_
      · kernel_rfl
      · intro u hy
        generalize hA : Act.put _ _ _ = A
        have e1 : A.eval (.tmp 23) = .pointer (some ⟨gW, p, none⟩) := by rw [← hA]; go_simp
        clear hA
        exact q_loadm (C := Fm w [(w.heap.size, #[.int .u8 0, .int .u8 0, .int .u8 0, .int .u8 0, .int .u8 0, .int .u16 0], 30), (gW, WT, 64), (u1.heap.size, OC, 30)]) rtW gW p DC (fun _ h => hR.out _ (h.bx 1 _ _ _ rfl)) hDC.out.2 (.tmp 23) rfl e1 u hy
      with_reducible refine quiet_one (.agg OC) ?_ ?_ ?_
      · kernel_rfl
      · intro u hy
        generalize hA : Act.put _ _ _ = A
        have e1 : A.eval (.tmp 6) = .pointer (some ⟨u1.heap.size, 0, none⟩) := by rw [← hA]; go_simp
        clear hA
        exact q_load (C := Fm w [(w.heap.size, #[.int .u8 0, .int .u8 0, .int .u8 0, .int .u8 0, .int .u8 0, .int .u16 0], 30), (gW, WT, 64), (u1.heap.size, OC, 30)]) rtO u1.heap.size OC (fun u' h' => h'.bx 2 _ _ _ rfl) hOC.out (.tmp 6) rfl e1 u hy
      with_reducible refine quiet_one (.int .u16 (V : Int)) ?_ ?_ ?_
      · kernel_rfl
      · intro u hy
        go_simp
        exact (hw.out u).mono fun e u' h' => ⟨h'.1, hy.below h'.2⟩
      with_reducible refine quiet_one (.int .u16 (v : Int)) ?_ ?_ ?_
      · kernel_rfl
      · intro u hy
        go_simp
      with_reducible refine quiet_one (.bool true) ?_ ?_ ?_
      · kernel_rfl
      · intro u hy
        go_simp
      with_reducible refine quiet_one (.bool true) ?_ ?_ ?_
      · kernel_rfl
      · intro u hy
        go_simp
      with_reducible refine quiet_one (.slice (some ⟨gW, 0, none⟩) 31 31) ?_ ?_ ?_
      · kernel_rfl
      · intro u hy
        go_simp
      with_reducible refine quiet_one (.int .i64 (m : Int)) ?_ ?_ ?_
      · kernel_rfl
      · intro u hy
        go_simp
      with_reducible refine quiet_one (.pointer (some ⟨gW, p, none⟩)) ?_ ?_ ?_
      · kernel_rfl
      · intro u hy
        go_simp
      with_reducible refine quiet_one (.pointer (some ⟨gW, p, none⟩)) ?_ ?_ ?_
      · kernel_rfl
      · intro u hy
        go_simp
      with_reducible refine quiet_one (.int .u8 (op : Int)) ?_ ?_ ?_
      · kernel_rfl
      · intro u hy
        have x := hR0.out _ (hy.bx 1 _ _ _ rfl)
        go_simp
      with_reducible refine quiet_one (.bool N) ?_ ?_ ?_
      · kernel_rfl
      · intro u hy
        go_simp
      have hNt' : N = true := hNt.out
      subst hNt'
      with_reducible refine quiet_one (.bool true) ?_ ?_ ?_
      · kernel_rfl
      · intro u hy
        go_simp
      with_reducible refine quiet_skip ?_ ?_
      · kernel_rfl
      with_reducible refine quiet_skip ?_ ?_
      · kernel_rfl
      with_reducible refine quiet_one (.bool true) ?_ ?_ ?_
      · kernel_rfl
      · intro u hy
        go_simp
      refine wpQuiet_nil ?_
      intro z3 K4
      replace K4 : Hid (Fm w [(w.heap.size, #[.int .u8 0, .int .u8 0, .int .u8 0, .int .u8 0, .int .u8 0, .int .u16 0], 30), (gW, WT, 64), (u1.heap.size, OC, 30)] z3) := K4
      go_simp
      go_wp2_with (first
        | ((with_reducible refine at_load rtO u1.heap.size OC ?_ ?_ (.tmp 6) ?_ ?_ ?_ ?_); exact K4.out.bx 2 _ _ _ rfl; exact hOC.out; kernel_rfl; rfl; rfl)
        | ((with_reducible refine at_st rtO w.heap.size #[.int .u8 0, .int .u8 0, .int .u8 0, .int .u8 0, .int .u8 0, .int .u16 0] OC ?_ ?_ ?_ ?_ (.tmp 2) (.tmp 41) ?_ ?_ ?_ ?_ ?_); exact K4.out.bx 0 _ _ _ rfl; rfl; exact hOC.out; exact hOC1.out; rfl; rfl; rfl; rfl; intro yE HE; have KE : Hid (Fm w [(w.heap.size, OC, 30), (gW, WT, 64), (u1.heap.size, OC, 30)] yE) := K4.out.put 0 _ _ _ _ rfl HE.out))
      exact ret_two rtO rfl rfl rfl (KE.out.bx 0 _ _ _ rfl) hOC.out rfl ⟨by rw [fin.out.1, fin.out.2]; rfl, KE.out.low⟩
end Go.Proofs.YthaijjehplomfaaDoor
