/- The document's own: Encode. -/
import Derived.Test.YtdbdcehdlegdiaaDoorB0
import Derived.Test.YtdbdcehdlegdiaaDoorB6d
namespace Go.Proofs.YtdbdcehdlegdiaaDoor
open Go Go.RowKit
set_option linter.unusedVariables false
set_option maxHeartbeats 1000000
set_option maxRecDepth 100000

theorem rencode_any (w : World) (o : Od) (ho : OdR o) : Calls Tryd.prog 5 #[.agg (o6 o)] w fun e w' => e = .returned (.tuple #[.int .u16 (((encW o).getD 0 : Nat) : Int), .int .i64 (if (encW o).isSome then 0 else 160)]) ∧ Below w.heap.size w w' := by
  obtain ⟨WT, hWT⟩ : ∃ x : Array Value, Hid (x = (rowL dwC ((List.range 31).map dR)).toArray) := ⟨_, (rfl : (rowL dwC ((List.range 31).map dR)).toArray = (rowL dwC ((List.range 31).map dR)).toArray)⟩
  obtain ⟨OC, hOC⟩ : ∃ x : Array Value, Hid (x = o6 o) := ⟨_, (rfl : o6 o = o6 o)⟩
  have sOC : Hid (OC.size = 6) := by rw [hOC.out]; exact (rfl : _ = _)
  obtain ⟨po, hpo⟩ : ∃ z, o.op = z := ⟨_, rfl⟩
  obtain ⟨px, hpx⟩ : ∃ z, o.x = z := ⟨_, rfl⟩
  obtain ⟨py, hpy⟩ : ∃ z, o.y = z := ⟨_, rfl⟩
  obtain ⟨pn, hpn⟩ : ∃ z, o.n = z := ⟨_, rfl⟩
  obtain ⟨pa, hpa⟩ : ∃ z, o.a = z := ⟨_, rfl⟩
  have hcs : Hid (OC[0]? = some (.int .u8 (po : Int)) ∧ OC[1]? = some (.int .u8 (px : Int)) ∧ OC[2]? = some (.int .u8 (py : Int)) ∧ OC[3]? = some (.int .u8 (pn : Int)) ∧ OC[5]? = some (.int .u16 (pa : Int))) := by
    rw [hOC.out, ← hpo, ← hpx, ← hpy, ← hpn, ← hpa]
    exact ⟨rfl, rfl, rfl, rfl, rfl⟩
  have hoR : Hid (OdR o) := ho
  have b1 := ho.op
  have b2 := ho.x
  have b3 := ho.y
  have b4 := ho.n
  have b5 := ho.a
  have i1 : (po : Int) < 256 := by omega
  have i2 : (px : Int) < 256 := by omega
  have i3 : (py : Int) < 256 := by omega
  have i4 : (pn : Int) < 256 := by omega
  have i5 : (pa : Int) < 65536 := by omega
  have hsO : Hid (smO o = true ↔ px < 16 ∧ py < 16 ∧ pn < 16 ∧ pa < 4096) := by rw [← hpx, ← hpy, ← hpn, ← hpa]; exact smO_iff
  have hop' : Hid (o.op = po) := hpo
  obtain ⟨RV, hRV⟩ : ∃ x, Hid ((((encW o).getD 0 : Nat) : Int) = x) := ⟨_, (rfl : (((encW o).getD 0 : Nat) : Int) = _)⟩
  obtain ⟨RE, hRE⟩ : ∃ x : Int, Hid ((if (encW o).isSome then (0 : Int) else 160) = x) := ⟨_, (rfl : (if (encW o).isSome then (0 : Int) else 160) = _)⟩
  rw [hRV.out, hRE.out, ← hOC.out]
  clear ho b1 b2 b3 b4 b5 hpo hpx hpy hpn hpa
  go_enter Tryd.func5, Tryd.ntmps5
  go_wp2_with (first
    | ((with_reducible refine gen_world (w.alloc (.cells OC 25)) (Fm w [(w.heap.size, OC, 25)]) ?_ ?_); exact Fm.one w _ _; intro y0 K0)
    | (go_at_call 7; refine (words_any y0).mono ?_; rintro e y1 ⟨rfl, H⟩; have K1 : Hid (Fm w [(w.heap.size, OC, 25), (y0.heap.size, WT, 35)] y1) := K0.out.add H.out.2 (Nat.le_refl _) (by rw [hWT.out]; exact H.out.1); clear H))
  generalize y0.heap.size = gW at K1 ⊢
  go_loopw [5] (fun kv wz => ∃ (k : Nat) (u : World), u = wz ∧ k ≤ 31 ∧ kv = .int .i64 (k : Int) ∧ Hid (Fm w [(w.heap.size, OC, 25), (gW, WT, 35)] u ∧ ∀ j, j < k → o.op ≠ opR (dR j))) (fun kv _ => (31 - intOf kv).toNat)
  case atStart => exact ⟨0, _, rfl, by decide, rfl, ⟨K1.out, fun j h => by omega⟩⟩
  case round =>
    obtain ⟨k, u, rfl, hk, rfl, K⟩ := hrel
    clear K0 K1
    by_cases hlt : k < 31
    · have hki : (k : Int) < 31 := by omega
      have hk' : Hid (k < 31) := hlt
      obtain ⟨p, hp⟩ : ∃ x, k * 4 = x := ⟨_, rfl⟩
      have ix := fun v => idxP (g := gW) (off := 0) (len := 31) (cap := 31) Tryd.underlying32 (s := 4) (by kernel_rfl) .i64 k v hlt
      simp only [Nat.zero_add] at ix
      rw [hp] at ix
      obtain ⟨op, hopk⟩ : ∃ x, opR (dR k) = x := ⟨_, rfl⟩
      obtain ⟨DC, hD0⟩ : ∃ x, x = (dwC (dR k)).toArray := ⟨_, rfl⟩
      have hR : Hid (∀ v, Bx v gW WT 35 → v.rangeAt gW p DC.toList) := fun v h => by rw [hD0, ← hp]; rw [hWT.out] at h; exact dw_at h k hk'.out
      have hR0 : Hid (∀ v, Bx v gW WT 35 → v.cell? ⟨gW, p, none⟩ = some (.int .u8 (op : Int))) := fun v h => by
        have := hR.out v h 0 (.int .u8 (op : Int)) (by rw [hD0, ← hopk]; rfl)
        exact this
      have hDC : Hid (DC.size = 4) := by rw [hD0]; exact (rfl : _ = _)
      have hdk : Hid (opR (dR k) = op ∧ dR k < 31) := ⟨hopk, dR_lt k hlt⟩
      have iop : (op : Int) < 256 := by have := (op_bnd (dR k) hdk.out.2).2; omega
      have cW := hR0.out u (K.out.1.bx 1 _ _ _ rfl)
      have cO := (K.out.1.bx 0 _ _ _ rfl).c 0 _ hcs.out.1
      have cX := (K.out.1.bx 0 _ _ _ rfl).c 1 _ hcs.out.2.1
      have cY := (K.out.1.bx 0 _ _ _ rfl).c 2 _ hcs.out.2.2.1
      have cN := (K.out.1.bx 0 _ _ _ rfl).c 3 _ hcs.out.2.2.2.1
      have cA := (K.out.1.bx 0 _ _ _ rfl).c 5 _ hcs.out.2.2.2.2
      have hD0' : Hid (DC = (dwC (dR k)).toArray) := hD0
      clear hp hopk hD0
      by_cases he : op = po
      · subst he
        have hrow : Hid (o.op = opR (dR k)) := by rw [hdk.out.1]; exact hop'.out
        rcases hsm : smO o with _ | _
        · have hnone : Hid (RV = 0 ∧ RE = 160) := by
            have := encD_big hsm
            rw [← hRV.out, ← hRE.out, this]
            exact ⟨rfl, rfl⟩
          have hnot : ¬ (px < 16 ∧ py < 16 ∧ pn < 16 ∧ pa < 4096) := fun h => by rw [hsO.out.2 h] at hsm; cases hsm
          clear hk hlt hsm
          go_upto_region 6 with (go_region)
          by_cases h1 : 15 < px
          · have q1 : decide ((15 : Int) < (px : Int)) = true := by simp; omega
            clear hnot h1
            go_wp2
            go_ret2
            exact ⟨by rw [hnone.out.1, hnone.out.2]; rfl, K.out.1.drew.low⟩
          have q1 : decide ((15 : Int) < (px : Int)) = false := by simp; omega
          by_cases h2 : 15 < py
          · have q2 : decide ((15 : Int) < (py : Int)) = true := by simp; omega
            clear hnot h1 h2
            go_wp2
            go_ret2
            exact ⟨by rw [hnone.out.1, hnone.out.2]; rfl, K.out.1.drew.low⟩
          have q2 : decide ((15 : Int) < (py : Int)) = false := by simp; omega
          by_cases h3 : 15 < pn
          · have q3 : decide ((15 : Int) < (pn : Int)) = true := by simp; omega
            clear hnot h1 h2 h3
            go_wp2
            go_ret2
            exact ⟨by rw [hnone.out.1, hnone.out.2]; rfl, K.out.1.drew.low⟩
          have q3 : decide ((15 : Int) < (pn : Int)) = false := by simp; omega
          have q4 : decide ((4095 : Int) < (pa : Int)) = true := by simp; omega
          clear hnot h1 h2 h3
          go_wp2
          go_ret2
          exact ⟨by rw [hnone.out.1, hnone.out.2]; rfl, K.out.1.drew.low⟩
        · have hfit := hsO.out.1 hsm
          have q1 : decide ((15 : Int) < (px : Int)) = false := by simp; omega
          have q2 : decide ((15 : Int) < (py : Int)) = false := by simp; omega
          have q3 : decide ((15 : Int) < (pn : Int)) = false := by simp; omega
          have q4 : decide ((4095 : Int) < (pa : Int)) = false := by simp; omega
          obtain ⟨hV0, hw0⟩ := wrdO_any (dR k) o hdk.out.2 hoR.out hsm
          obtain ⟨V, hV⟩ : ∃ z, wD (dR k) o = z := ⟨_, rfl⟩
          rw [hV] at hV0 hw0
          have hw : Hid (∀ w, Calls Tryd.prog 8 #[.agg DC, .agg OC] w fun e w' => e = .returned (.int .u16 (V : Int)) ∧ Below w.heap.size w w') := by rw [hD0'.out, hOC.out]; exact hw0
          have hVl : Hid (V < 65536) := hV0
          have iV : (V : Int) < 65536 := by omega
          obtain ⟨SM, hSM⟩ : ∃ z, (decO V).same o = z := ⟨_, rfl⟩
          have eO : Hid (Eqs Tryd.prog 25 (o6 (decO V)) OC SM) := by rw [hOC.out, ← hSM]; exact eqO _ _
          obtain ⟨OV, hOV⟩ : ∃ z, Hid (o6 (decO V) = z) := ⟨_, (rfl : o6 (decO V) = _)⟩
          obtain ⟨KB, hKB⟩ : ∃ z, Hid (decB V = z) := ⟨_, (rfl : decB V = _)⟩
          have sOV : Hid (OV.size = 6 ∧ OV.all (·.oneCell') = true) := by rw [← hOV.out]; exact ⟨rfl, o6_one _⟩
          rw [hOV.out] at eO
          have hfin : Hid ((SM = true → RV = (V : Int) ∧ RE = 0) ∧ (SM = false → RV = 0 ∧ RE = 160)) := by
            refine ⟨fun h => ?_, fun h => ?_⟩
            · have := encD_good (dR k) hdk.out.2 hrow.out (by rw [hV]; exact hV0) (by rw [hV, hSM]; exact h)
              rw [← hRV.out, ← hRE.out, this, hV]
              exact ⟨rfl, rfl⟩
            · have := encD_bad (dR k) hdk.out.2 hrow.out (by rw [hV, hSM]; exact h)
              rw [← hRV.out, ← hRE.out, this]
              exact ⟨rfl, rfl⟩
          clear hk hlt hsm hfit hV0 hw0 hV hSM
          go_upto_region 8 with (go_region)
          refine region_class_tail 6 (Fm w [(w.heap.size, OC, 25), (gW, WT, 35)]) (by kernel_rfl) (by kernel_rfl) K.out.1.drew.drew ?_
          simp only [List.take_succ_cons, List.take_zero, List.drop_succ_cons, List.drop_zero]
          with_reducible refine quiet_one (.slice (some ⟨gW, 0, none⟩) 31 31) ?_ ?_ ?_
          · kernel_rfl
          · intro v hy
            go_simp
          with_reducible refine quiet_one (.int .i64 (k : Int)) ?_ ?_ ?_
          · kernel_rfl
          · intro v hy
            go_simp
          with_reducible refine quiet_one (.pointer (some ⟨gW, p, none⟩)) ?_ ?_ ?_
          · kernel_rfl
          · intro v hy
            go_simp
          with_reducible refine quiet_one (.agg DC) ?_ ?_ ?_
          · kernel_rfl
          · intro v hy
            generalize hA : Act.put _ _ _ = A
            have e1 : A.eval (.tmp 44) = .pointer (some ⟨gW, p, none⟩) := by rw [← hA]; go_simp
            clear hA
            exact q_loadm (C := Fm w [(w.heap.size, OC, 25), (gW, WT, 35)]) rtW gW p DC (fun _ h => hR.out _ (h.bx 1 _ _ _ rfl)) hDC.out (.tmp 44) rfl e1 v hy
          with_reducible refine quiet_one (.agg OC) ?_ ?_ ?_
          · kernel_rfl
          · intro v hy
            generalize hA : Act.put _ _ _ = A
            have e1 : A.eval (.tmp 1) = .pointer (some ⟨w.heap.size, 0, none⟩) := by rw [← hA]; go_simp
            clear hA
            exact q_load (C := Fm w [(w.heap.size, OC, 25), (gW, WT, 35)]) rtO w.heap.size OC (fun u' h' => h'.bx 0 _ _ _ rfl) sOC.out (.tmp 1) rfl e1 v hy
          with_reducible refine quiet_one (.int .u16 (V : Int)) ?_ ?_ ?_
          · kernel_rfl
          · intro v hy
            go_simp
            exact (hw.out v).mono fun e u' h' => ⟨h'.1, hy.below h'.2⟩
          refine wpQuiet_nil ?_
          intro z3 K4
          replace K4 : Hid (Fm w [(w.heap.size, OC, 25), (gW, WT, 35)] z3) := K4
          go_simp
          clear hw hR hR0
          go_upto_if 55 with (first
            | ((with_reducible refine at_ne eO.out (.tmp 53) (.tmp 54) 25 ?_ ?_ ?_ ?_ ?_); kernel_rfl; rfl; rfl; rfl; simp only [Act.put, List.setIfInBounds_toArray, List.set_cons_zero, List.set_cons_succ])
            | ((with_reducible refine at_st rtO y5.heap.size #[.int .u8 0, .int .u8 0, .int .u8 0, .int .u8 0, .int .u8 0, .int .u16 0] OV ?_ ?_ ?_ ?_ (.tmp 7) (.tmp 51) ?_ ?_ ?_ ?_ ?_); exact K6.out.bx 2 _ _ _ rfl; rfl; exact sOV.out.1; exact sOV.out.2; rfl; rfl; rfl; rfl; intro y7 H; have K7 : Hid (Fm w [(w.heap.size, OC, 25), (gW, WT, 35), (y5.heap.size, OV, 25)] y7) := K6.out.put 2 _ _ _ _ rfl H.out; clear H)
            | ((with_reducible refine gen_world (y5.alloc (.cells #[.int .u8 0, .int .u8 0, .int .u8 0, .int .u8 0, .int .u8 0, .int .u16 0] 25)) (Fm w [(w.heap.size, OC, 25), (gW, WT, 35), (y5.heap.size, #[.int .u8 0, .int .u8 0, .int .u8 0, .int .u8 0, .int .u8 0, .int .u16 0], 25)]) ?_ ?_); exact K5.out.new _ _; intro y6 K6)
            | (go_at_call 9; refine (rdec_any z3 V hVl.out).mono ?_; rw [hOV.out, hKB.out]; rintro e y5 ⟨rfl, H⟩; have K5 : Hid (Fm w [(w.heap.size, OC, 25), (gW, WT, 35)] y5) := K4.out.below H; clear H)
            | ((with_reducible refine at_load rtO y5.heap.size OV ?_ ?_ (.tmp 7) ?_ ?_ ?_ ?_); exact K7.out.bx 2 _ _ _ rfl; exact sOV.out.1; kernel_rfl; rfl; rfl)
            | ((with_reducible refine at_load rtO w.heap.size OC ?_ ?_ (.tmp 1) ?_ ?_ ?_ ?_); exact K7.out.bx 0 _ _ _ rfl; exact sOC.out; kernel_rfl; rfl; rfl))
          rcases SM with _ | _
          · have hf : Hid (RV = 0 ∧ RE = 160) := hfin.out.2 rfl
            clear hfin eO
            simp only [Bool.not_false]
            go_wp2
            go_ret2
            exact ⟨by rw [hf.out.1, hf.out.2]; rfl, K7.out.low⟩
          · have hf : Hid (RV = (V : Int) ∧ RE = 0) := hfin.out.1 rfl
            clear hfin eO
            simp only [Bool.not_true]
            go_wp2
            go_ret2
            exact ⟨by rw [hf.out.1, hf.out.2]; rfl, K7.out.low⟩
      · have q0 : ((op : Int) != (po : Int)) = true := by simp; omega
        have nxt : Hid (∀ j, j < k + 1 → o.op ≠ opR (dR j)) := fun j hj => by
          rcases Nat.lt_or_ge j k with c | c
          · exact K.out.2 j c
          · rw [show j = k by omega, hop'.out, hdk.out.1]
            exact fun e => he e.symm
        clear hk hlt he
        go_wp2
        go_region
        go_wp2
        go_roundw
        case rel => exact ⟨k + 1, _, rfl, hk'.out, by simp, ⟨K.out.1.drew, nxt.out⟩⟩
        case measure => have := hk'.out; simp [intOf]; omega
    · obtain rfl : k = 31 := by omega
      have hnone : Hid (RV = 0 ∧ RE = 160) := by
        have := encD_none (o := o) (fun j hj => K.out.2 j hj)
        rw [← hRV.out, ← hRE.out, this]
        exact ⟨rfl, rfl⟩
      clear hk hlt
      go_wp2
      go_ret2
      exact ⟨by rw [hnone.out.1, hnone.out.2]; rfl, K.out.1.low⟩
end Go.Proofs.YtdbdcehdlegdiaaDoor
