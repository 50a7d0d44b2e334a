/- The document's own: Encode. The document's own: an order's line, Print. -/
import Derived.Test.YthaijjehplomfaaDoorJ22
import Derived.Test.YthaijjehplomfaaDoorJ23
import Derived.Test.YthaijjehplomfaaDoorJ20
namespace Go.Proofs.YthaijjehplomfaaDoor
open Go Go.RowKit
set_option linter.unusedVariables false
set_option maxHeartbeats 1000000
set_option maxRecDepth 100000

theorem rencode_any (w : World) (o : Od) (ho : OdR o) : Calls Tryd.prog 9 #[.agg (o6 o)] w fun e w' => e = .returned (.tuple #[.int .u16 (((encW o).getD 0 : Nat) : Int), .int .i64 (if (encW o).isSome then 0 else 160)]) ∧ Below w.heap.size w w' := by
  obtain ⟨WT, hWT⟩ : ∃ x : Array Value, Hid (x = (rowL dwC ((List.range 31).map dR)).toArray) := ⟨_, (rfl : (rowL dwC ((List.range 31).map dR)).toArray = (rowL dwC ((List.range 31).map dR)).toArray)⟩
  obtain ⟨OC, hOC⟩ : ∃ x : Array Value, Hid (x = o6 o) := ⟨_, (rfl : o6 o = o6 o)⟩
  have sOC : Hid (OC.size = 6) := by rw [hOC.out]; exact (rfl : _ = _)
  obtain ⟨po, hpo⟩ : ∃ z, o.op = z := ⟨_, rfl⟩
  obtain ⟨px, hpx⟩ : ∃ z, o.x = z := ⟨_, rfl⟩
  obtain ⟨py, hpy⟩ : ∃ z, o.y = z := ⟨_, rfl⟩
  obtain ⟨pn, hpn⟩ : ∃ z, o.n = z := ⟨_, rfl⟩
  obtain ⟨pa, hpa⟩ : ∃ z, o.a = z := ⟨_, rfl⟩
  have hcs : Hid (OC[0]? = some (.int .u8 (po : Int)) ∧ OC[1]? = some (.int .u8 (px : Int)) ∧ OC[2]? = some (.int .u8 (py : Int)) ∧ OC[3]? = some (.int .u8 (pn : Int)) ∧ OC[5]? = some (.int .u16 (pa : Int))) := by
    rw [hOC.out, ← hpo, ← hpx, ← hpy, ← hpn, ← hpa]
    exact ⟨rfl, rfl, rfl, rfl, rfl⟩
  have hoR : Hid (OdR o) := ho
  have b1 := ho.op
  have b2 := ho.x
  have b3 := ho.y
  have b4 := ho.n
  have b5 := ho.a
  have i1 : (po : Int) < 256 := by omega
  have i2 : (px : Int) < 256 := by omega
  have i3 : (py : Int) < 256 := by omega
  have i4 : (pn : Int) < 256 := by omega
  have i5 : (pa : Int) < 65536 := by omega
  have hsO : Hid (smO o = true ↔ px < 16 ∧ py < 16 ∧ pn < 16 ∧ pa < 4096) := by rw [← hpx, ← hpy, ← hpn, ← hpa]; exact smO_iff
  have hop' : Hid (o.op = po) := hpo
  obtain ⟨RV, hRV⟩ : ∃ x, Hid ((((encW o).getD 0 : Nat) : Int) = x) := ⟨_, (rfl : (((encW o).getD 0 : Nat) : Int) = _)⟩
  obtain ⟨RE, hRE⟩ : ∃ x : Int, Hid ((if (encW o).isSome then (0 : Int) else 160) = x) := ⟨_, (rfl : (if (encW o).isSome then (0 : Int) else 160) = _)⟩
  rw [hRV.out, hRE.out, ← hOC.out]
  clear ho b1 b2 b3 b4 b5 hpo hpx hpy hpn hpa
  go_enter Tryd.func9, Tryd.ntmps9
  go_wp2_with (first
    | ((with_reducible refine gen_world (w.alloc (.cells OC 30)) (Fm w [(w.heap.size, OC, 30)]) ?_ ?_); exact Fm.one w _ _; intro y0 K0)
    | (go_at_call 21; refine (rWords_any y0).mono ?_; rintro e y1 ⟨rfl, H⟩; have K1 : Hid (Fm w [(w.heap.size, OC, 30), (y0.heap.size, WT, 64)] y1) := K0.out.add H.out.2 (Nat.le_refl _) (by rw [hWT.out]; exact H.out.1); clear H))
  generalize y0.heap.size = gW at K1 ⊢
  go_loopw [5] (fun kv wz => ∃ (k : Nat) (u : World), u = wz ∧ k ≤ 31 ∧ kv = .int .i64 (k : Int) ∧ Hid (Fm w [(w.heap.size, OC, 30), (gW, WT, 64)] u ∧ ∀ j, j < k → o.op ≠ opR (dR j))) (fun kv _ => (31 - intOf kv).toNat)
  case atStart => exact ⟨0, _, rfl, by decide, rfl, ⟨K1.out, fun j h => by omega⟩⟩
  case round =>
    obtain ⟨k, u, rfl, hk, rfl, K⟩ := hrel
    clear K0 K1
    by_cases hlt : k < 31
    · have hki : (k : Int) < 31 := by omega
      have hk' : Hid (k < 31) := hlt
      obtain ⟨p, hp⟩ : ∃ x, k * 4 = x := ⟨_, rfl⟩
      have ix := fun v => idxP (g := gW) (off := 0) (len := 31) (cap := 31) Tryd.underlying61 (s := 4) (by kernel_rfl) .i64 k v hlt
      simp only [Nat.zero_add] at ix
      rw [hp] at ix
      obtain ⟨op, hopk⟩ : ∃ x, opR (dR k) = x := ⟨_, rfl⟩
      obtain ⟨DC, hD0⟩ : ∃ x, x = (dwC (dR k)).toArray := ⟨_, rfl⟩
      have hR : Hid (∀ v, Bx v gW WT 64 → v.rangeAt gW p DC.toList) := fun v h => by rw [hD0, ← hp]; rw [hWT.out] at h; exact dw_at h k hk'.out
      have hR0 : Hid (∀ v, Bx v gW WT 64 → v.cell? ⟨gW, p, none⟩ = some (.int .u8 (op : Int))) := fun v h => by
        have := hR.out v h 0 (.int .u8 (op : Int)) (by rw [hD0, ← hopk]; rfl)
        exact this
      have hDC : Hid (DC.size = 4) := by rw [hD0]; exact (rfl : _ = _)
      have hdk : Hid (opR (dR k) = op ∧ dR k < 31) := ⟨hopk, dR_lt k hlt⟩
      have iop : (op : Int) < 256 := by have := (op_bnd (dR k) hdk.out.2).2; omega
      have cW := hR0.out u (K.out.1.bx 1 _ _ _ rfl)
      have cO := (K.out.1.bx 0 _ _ _ rfl).c 0 _ hcs.out.1
      have cX := (K.out.1.bx 0 _ _ _ rfl).c 1 _ hcs.out.2.1
      have cY := (K.out.1.bx 0 _ _ _ rfl).c 2 _ hcs.out.2.2.1
      have cN := (K.out.1.bx 0 _ _ _ rfl).c 3 _ hcs.out.2.2.2.1
      have cA := (K.out.1.bx 0 _ _ _ rfl).c 5 _ hcs.out.2.2.2.2
      have hD0' : Hid (DC = (dwC (dR k)).toArray) := hD0
      clear hp hopk hD0
      by_cases he : op = po
      · subst he
        have hrow : Hid (o.op = opR (dR k)) := by rw [hdk.out.1]; exact hop'.out
        rcases hsm : smO o with _ | _
        · have hnone : Hid (RV = 0 ∧ RE = 160) := by
            have := encD_big hsm
            rw [← hRV.out, ← hRE.out, this]
            exact ⟨rfl, rfl⟩
          have hnot : ¬ (px < 16 ∧ py < 16 ∧ pn < 16 ∧ pa < 4096) := fun h => by rw [hsO.out.2 h] at hsm; cases hsm
          clear hk hlt hsm
          go_upto_region 6 with (go_region)
          by_cases h1 : 15 < px
          · have q1 : decide ((15 : Int) < (px : Int)) = true := by simp; omega
            clear hnot h1
            go_wp2
            go_ret2
            exact ⟨by rw [hnone.out.1, hnone.out.2]; rfl, K.out.1.drew.low⟩
          have q1 : decide ((15 : Int) < (px : Int)) = false := by simp; omega
          by_cases h2 : 15 < py
          · have q2 : decide ((15 : Int) < (py : Int)) = true := by simp; omega
            clear hnot h1 h2
            go_wp2
            go_ret2
            exact ⟨by rw [hnone.out.1, hnone.out.2]; rfl, K.out.1.drew.low⟩
          have q2 : decide ((15 : Int) < (py : Int)) = false := by simp; omega
          by_cases h3 : 15 < pn
          · have q3 : decide ((15 : Int) < (pn : Int)) = true := by simp; omega
            clear hnot h1 h2 h3
            go_wp2
            go_ret2
            exact ⟨by rw [hnone.out.1, hnone.out.2]; rfl, K.out.1.drew.low⟩
          have q3 : decide ((15 : Int) < (pn : Int)) = false := by simp; omega
          have q4 : decide ((4095 : Int) < (pa : Int)) = true := by simp; omega
          clear hnot h1 h2 h3
          go_wp2
          go_ret2
          exact ⟨by rw [hnone.out.1, hnone.out.2]; rfl, K.out.1.drew.low⟩
        · have hfit := hsO.out.1 hsm
          have q1 : decide ((15 : Int) < (px : Int)) = false := by simp; omega
          have q2 : decide ((15 : Int) < (py : Int)) = false := by simp; omega
          have q3 : decide ((15 : Int) < (pn : Int)) = false := by simp; omega
          have q4 : decide ((4095 : Int) < (pa : Int)) = false := by simp; omega
          obtain ⟨hV0, hw0⟩ := wrdO_any (dR k) o hdk.out.2 hoR.out hsm
          obtain ⟨V, hV⟩ : ∃ z, wD (dR k) o = z := ⟨_, rfl⟩
          rw [hV] at hV0 hw0
          have hw : Hid (∀ w, Calls Tryd.prog 23 #[.agg DC, .agg OC] w fun e w' => e = .returned (.int .u16 (V : Int)) ∧ Below w.heap.size w w') := by rw [hD0'.out, hOC.out]; exact hw0
          have hVl : Hid (V < 65536) := hV0
          have iV : (V : Int) < 65536 := by omega
          obtain ⟨SM, hSM⟩ : ∃ z, (decO V).same o = z := ⟨_, rfl⟩
          have eO : Hid (Eqs Tryd.prog 30 (o6 (decO V)) OC SM) := by rw [hOC.out, ← hSM]; exact eqO _ _
          obtain ⟨OV, hOV⟩ : ∃ z, Hid (o6 (decO V) = z) := ⟨_, (rfl : o6 (decO V) = _)⟩
          obtain ⟨KB, hKB⟩ : ∃ z, Hid (decB V = z) := ⟨_, (rfl : decB V = _)⟩
          have sOV : Hid (OV.size = 6 ∧ OV.all (·.oneCell') = true) := by rw [← hOV.out]; exact ⟨rfl, o6_one _⟩
          rw [hOV.out] at eO
          have hfin : Hid ((SM = true → RV = (V : Int) ∧ RE = 0) ∧ (SM = false → RV = 0 ∧ RE = 160)) := by
            refine ⟨fun h => ?_, fun h => ?_⟩
            · have := encD_good (dR k) hdk.out.2 hrow.out (by rw [hV]; exact hV0) (by rw [hV, hSM]; exact h)
              rw [← hRV.out, ← hRE.out, this, hV]
              exact ⟨rfl, rfl⟩
            · have := encD_bad (dR k) hdk.out.2 hrow.out (by rw [hV, hSM]; exact h)
              rw [← hRV.out, ← hRE.out, this]
              exact ⟨rfl, rfl⟩
          clear hk hlt hsm hfit hV0 hw0 hV hSM
          go_upto_region 8 with (go_region)
          refine region_class_tail 6 (Fm w [(w.heap.size, OC, 30), (gW, WT, 64)]) (by kernel_rfl) (by kernel_rfl) K.out.1.drew.drew ?_
          simp only [List.take_succ_cons, List.take_zero, List.drop_succ_cons, List.drop_zero]
          with_reducible refine quiet_one (.slice (some ⟨gW, 0, none⟩) 31 31) ?_ ?_ ?_
          · kernel_rfl
          · intro v hy
            go_simp
          with_reducible refine quiet_one (.int .i64 (k : Int)) ?_ ?_ ?_
          · kernel_rfl
          · intro v hy
            go_simp
          with_reducible refine quiet_one (.pointer (some ⟨gW, p, none⟩)) ?_ ?_ ?_
          · kernel_rfl
          · intro v hy
            go_simp
          with_reducible refine quiet_one (.agg DC) ?_ ?_ ?_
          · kernel_rfl
          · intro v hy
            generalize hA : Act.put _ _ _ = A
            have e1 : A.eval (.tmp 44) = .pointer (some ⟨gW, p, none⟩) := by rw [← hA]; go_simp
            clear hA
            exact q_loadm (C := Fm w [(w.heap.size, OC, 30), (gW, WT, 64)]) rtW gW p DC (fun _ h => hR.out _ (h.bx 1 _ _ _ rfl)) hDC.out (.tmp 44) rfl e1 v hy
          with_reducible refine quiet_one (.agg OC) ?_ ?_ ?_
          · kernel_rfl
          · intro v hy
            generalize hA : Act.put _ _ _ = A
            have e1 : A.eval (.tmp 1) = .pointer (some ⟨w.heap.size, 0, none⟩) := by rw [← hA]; go_simp
            clear hA
            exact q_load (C := Fm w [(w.heap.size, OC, 30), (gW, WT, 64)]) rtO w.heap.size OC (fun u' h' => h'.bx 0 _ _ _ rfl) sOC.out (.tmp 1) rfl e1 v hy
          with_reducible refine quiet_one (.int .u16 (V : Int)) ?_ ?_ ?_
          · kernel_rfl
          · intro v hy
            go_simp
            exact (hw.out v).mono fun e u' h' => ⟨h'.1, hy.below h'.2⟩
          refine wpQuiet_nil ?_
          intro z3 K4
          replace K4 : Hid (Fm w [(w.heap.size, OC, 30), (gW, WT, 64)] z3) := K4
          go_simp
          clear hw hR hR0
          go_upto_if 55 with (first
            | ((with_reducible refine at_ne eO.out (.tmp 53) (.tmp 54) 30 ?_ ?_ ?_ ?_ ?_); kernel_rfl; rfl; rfl; rfl; simp only [Act.put, List.setIfInBounds_toArray, List.set_cons_zero, List.set_cons_succ])
            | ((with_reducible refine at_st rtO y5.heap.size #[.int .u8 0, .int .u8 0, .int .u8 0, .int .u8 0, .int .u8 0, .int .u16 0] OV ?_ ?_ ?_ ?_ (.tmp 7) (.tmp 51) ?_ ?_ ?_ ?_ ?_); exact K6.out.bx 2 _ _ _ rfl; rfl; exact sOV.out.1; exact sOV.out.2; rfl; rfl; rfl; rfl; intro y7 H; have K7 : Hid (Fm w [(w.heap.size, OC, 30), (gW, WT, 64), (y5.heap.size, OV, 30)] y7) := K6.out.put 2 _ _ _ _ rfl H.out; clear H)
            | ((with_reducible refine gen_world (y5.alloc (.cells #[.int .u8 0, .int .u8 0, .int .u8 0, .int .u8 0, .int .u8 0, .int .u16 0] 30)) (Fm w [(w.heap.size, OC, 30), (gW, WT, 64), (y5.heap.size, #[.int .u8 0, .int .u8 0, .int .u8 0, .int .u8 0, .int .u8 0, .int .u16 0], 30)]) ?_ ?_); exact K5.out.new _ _; intro y6 K6)
            | (go_at_call 7; refine (rdec_any z3 V hVl.out).mono ?_; rw [hOV.out, hKB.out]; rintro e y5 ⟨rfl, H⟩; have K5 : Hid (Fm w [(w.heap.size, OC, 30), (gW, WT, 64)] y5) := K4.out.below H; clear H)
            | ((with_reducible refine at_load rtO y5.heap.size OV ?_ ?_ (.tmp 7) ?_ ?_ ?_ ?_); exact K7.out.bx 2 _ _ _ rfl; exact sOV.out.1; kernel_rfl; rfl; rfl)
            | ((with_reducible refine at_load rtO w.heap.size OC ?_ ?_ (.tmp 1) ?_ ?_ ?_ ?_); exact K7.out.bx 0 _ _ _ rfl; exact sOC.out; kernel_rfl; rfl; rfl))
          rcases SM with _ | _
          · have hf : Hid (RV = 0 ∧ RE = 160) := hfin.out.2 rfl
            clear hfin eO
            simp only [Bool.not_false]
            go_wp2
            go_ret2
            exact ⟨by rw [hf.out.1, hf.out.2]; rfl, K7.out.low⟩
          · have hf : Hid (RV = (V : Int) ∧ RE = 0) := hfin.out.1 rfl
            clear hfin eO
            simp only [Bool.not_true]
            go_wp2
            go_ret2
            exact ⟨by rw [hf.out.1, hf.out.2]; rfl, K7.out.low⟩
      · have q0 : ((op : Int) != (po : Int)) = true := by simp; omega
        have nxt : Hid (∀ j, j < k + 1 → o.op ≠ opR (dR j)) := fun j hj => by
          rcases Nat.lt_or_ge j k with c | c
          · exact K.out.2 j c
          · rw [show j = k by omega, hop'.out, hdk.out.1]
            exact fun e => he e.symm
        clear hk hlt he
        go_wp2
        go_region
        go_wp2
        go_roundw
        case rel => exact ⟨k + 1, _, rfl, hk'.out, by simp, ⟨K.out.1.drew, nxt.out⟩⟩
        case measure => have := hk'.out; simp [intOf]; omega
    · obtain rfl : k = 31 := by omega
      have hnone : Hid (RV = 0 ∧ RE = 160) := by
        have := encD_none (o := o) (fun j hj => K.out.2 j hj)
        rw [← hRV.out, ← hRE.out, this]
        exact ⟨rfl, rfl⟩
      clear hk hlt
      go_wp2
      go_ret2
      exact ⟨by rw [hnone.out.1, hnone.out.2]; rfl, K.out.1.low⟩
end Go.Proofs.YthaijjehplomfaaDoor

namespace Go.Proofs.YthaijjehplomfaaDoor
open Go Go.RowKit
set_option linter.unusedVariables false
set_option maxHeartbeats 1000000
set_option maxRecDepth 20000

theorem chK_fs (k : Nat) : ((chK k).toNat : Int) = (fsC k : Int) := by
  unfold chK fsC
  split
  · rfl
  · split
    · rfl
    · split
      · rfl
      · split
        · rfl
        · rfl
/-- The document's row of a row. -/
theorem dR_back (i : Nat) (hi : i < 31) : ∃ j, j < 31 ∧ dR j = i := by
  rcases Nat.lt_or_ge i 3 with h | h
  · rcases (show i = 0 ∨ i = 1 ∨ i = 2 by omega) with rfl | rfl | rfl
    · exact ⟨1, by decide, rfl⟩
    · exact ⟨2, by decide, rfl⟩
    · exact ⟨0, by decide, rfl⟩
  · exact ⟨i, hi, by unfold dR; rw [if_neg (by omega), if_neg (by omega), if_neg (by omega)]⟩
theorem dR_inj {i j : Nat} (hi : i < 31) (hj : j < 31) (h : dR i = dR j) : i = j := by
  unfold dR at h
  split at h <;> split at h <;> (try split at h) <;> (try split at h) <;> (try split at h) <;> (try split at h) <;> omega
theorem fldB_W (k : Nat) (o : Od) (hf : getK k o < 16 ^ digK k) : (⟨#[32]⟩ : ByteArray) ++ fldW k o = fldB k o := by
  have h := fldB_data k o hf
  unfold fldW
  cases hB : fldB k o with
  | mk d =>
    rw [hB] at h
    apply ByteArray.ext
    apply Array.toList_inj.1
    rw [show d.toList = _ from h, ByteArray.data_append, Array.toList_append]
    rfl
theorem fs_at (i q k : Nat) (hk : (fsR i)[q]? = some k) (S : ByteArray) (hS : S = ⟨((fsR i).map chK).toArray⟩) (z : World) : (Instr.index 9 (.string S) (.int .i64 (q : Int))).run Tryd.prog z = .ok (.int .u8 (fsC k : Int)) z := by
  subst hS
  obtain ⟨hq, he⟩ := List.getElem?_eq_some_iff.1 hk
  have hs : (⟨((fsR i).map chK).toArray⟩ : ByteArray).size = (fsR i).length := by
    show ((fsR i).map chK).toArray.size = _
    simp
  rw [run_index_string z _ _ _ _ Tryd.underlying9, dif_pos ⟨by omega, by rw [hs]; omega⟩]
  have e1 : (⟨((fsR i).map chK).toArray⟩ : ByteArray)[((q : Int)).toNat]'(by rw [hs]; omega) = chK k := by
    show (((fsR i).map chK).toArray)[((q : Int)).toNat]'(by simp; omega) = chK k
    simp [he]
  rw [e1, chK_fs]
theorem rprint_no (w : World) (o : Od) (ho : OdR o) (he : encW o = none) : Calls Tryd.prog 11 #[.agg (o6 o)] w fun e w' => e = .returned (.tuple #[.string ⟨#[]⟩, .int .i64 160]) ∧ Below w.heap.size w w' := by
  have hF : Hid (Fm w [(w.heap.size, o6 o, 30)] (w.alloc (.cells (o6 o) 30))) := Fm.one w _ _
  have hE := fun z => rencode_any z o ho
  rw [he] at hE
  simp only [Option.getD_none, Option.isSome_none, Bool.false_eq_true, if_false] at hE
  clear he ho
  go_enter Tryd.func11, Tryd.ntmps11
  go_wp2_with (first
    | (go_at_call 9; refine (hE _).mono ?_; rintro e y1 ⟨rfl, hb1⟩; have K1 : Hid (Fm w [(w.heap.size, o6 o, 30)] y1) := K.out.below hb1)
    | ((with_reducible refine at_load rtO w.heap.size (o6 o) ?_ ?_ (.tmp 1) ?_ ?_ ?_ ?_); exact K.out.bx 0 _ _ _ rfl; rfl; kernel_rfl; rfl; rfl)
    | ((with_reducible refine gen_world (w.alloc (.cells (o6 o) 30)) (Fm w [(w.heap.size, o6 o, 30)]) hF.out ?_); intro y0 K))
  go_ret2
  exact ⟨rfl, K1.out.low⟩
theorem rprint_yes (w : World) (o : Od) (ho : OdR o) (x : Nat) (he : encW o = some x) : Calls Tryd.prog 11 #[.agg (o6 o)] w fun e w' => e = .returned (.tuple #[.string (lineB o), .int .i64 0]) ∧ Below w.heap.size w w' := by
  have hF : Hid (Fm w [(w.heap.size, o6 o, 30)] (w.alloc (.cells (o6 o) 30))) := Fm.one w _ _
  have hE := fun z => rencode_any z o ho
  rw [he] at hE
  simp only [Option.getD_some, Option.isSome_some, if_true] at hE
  obtain ⟨i0, hi0, hr0, hop0, hf0, _⟩ := enc_row he
  obtain ⟨j0, hj0, hdj⟩ := dR_back i0 hi0
  obtain ⟨WT, hWT⟩ : ∃ x : Array Value, Hid (x = (rowL dwC ((List.range 31).map dR)).toArray) := ⟨_, (rfl : (rowL dwC ((List.range 31).map dR)).toArray = (rowL dwC ((List.range 31).map dR)).toArray)⟩
  obtain ⟨fin, hfin⟩ : ∃ fin, Hid (lineB o = fin) := ⟨_, (rfl : lineB o = _)⟩
  have hlin : Hid (linB (nmB i0) o (fsR i0) = fin) := by
    show _ = _
    rw [← hfin.out]
    unfold lineB
    rw [hr0]
  rw [hfin.out]
  obtain ⟨po, hpo⟩ : ∃ z, o.op = z := ⟨_, rfl⟩
  have hfacts : Hid (i0 < 31 ∧ j0 < 31 ∧ dR j0 = i0 ∧ po = opR i0 ∧ (∀ k ∈ fsR i0, getK k o < 16 ^ digK k) ∧ OdR o) := ⟨hi0, hj0, hdj, by rw [← hpo, hop0], hf0, ho⟩
  obtain ⟨OC, hOC⟩ : ∃ x : Array Value, Hid (o6 o = x) := ⟨_, (rfl : o6 o = o6 o)⟩
  have sOC : Hid (OC.size = 6 ∧ OC[0]? = some (.int .u8 (po : Int))) := by rw [← hOC.out, ← hpo]; exact ⟨rfl, rfl⟩
  rw [hOC.out] at hF hE ⊢
  have hop256 : (po : Int) < 256 := by rw [← hpo]; have := ho.op; omega
  clear he ho hi0 hr0 hop0 hf0 hj0 hdj hpo hfin
  go_enter Tryd.func11, Tryd.ntmps11
  go_wp2_with (first
    | (go_at_call 21; refine (rWords_any y1).mono ?_; rintro e y2 ⟨rfl, H⟩; have K2 : Hid (Fm w [(w.heap.size, OC, 30), (y1.heap.size, WT, 64)] y2) := K1.out.add H.out.2 (Nat.le_refl _) (by rw [hWT.out]; exact H.out.1); clear H)
    | (go_at_call 9; refine (hE _).mono ?_; rintro e y1 ⟨rfl, hb1⟩; have K1 : Hid (Fm w [(w.heap.size, OC, 30)] y1) := K.out.below hb1; clear hb1)
    | ((with_reducible refine at_load rtO w.heap.size OC ?_ ?_ (.tmp 1) ?_ ?_ ?_ ?_); exact K.out.bx 0 _ _ _ rfl; exact sOC.out.1; kernel_rfl; rfl; rfl)
    | ((with_reducible refine gen_world (w.alloc (.cells OC 30)) (Fm w [(w.heap.size, OC, 30)]) hF.out ?_); intro y0 K))
  generalize y1.heap.size = gW at K2 ⊢
  go_loopw [7, 8] (fun fs fi wz => ∃ (j : Nat) (S : ByteArray) (u : World), u = wz ∧ j ≤ 31 ∧ fs = .string S ∧ fi = .int .i64 (j : Int) ∧ Hid (Fm w [(w.heap.size, OC, 30), (gW, WT, 64)] u) ∧ Hid ((j ≤ j0 → S = ⟨#[]⟩) ∧ (j0 < j → S = fin))) (fun _ fi _ => (31 - intOf fi).toNat)
  case atStart => exact ⟨0, ⟨#[]⟩, _, rfl, by decide, rfl, rfl, K2.out, ⟨fun _ => rfl, fun h => by omega⟩⟩
  case round =>
    obtain ⟨j, S, u, rfl, hj, rfl, rfl, Ku, J⟩ := hrel
    by_cases hlt : j < 31
    · have hji : (j : Int) < 31 := by omega
      have hj' : Hid (j < 31) := hlt
      obtain ⟨p, hp⟩ : ∃ x, j * 4 = x := ⟨_, rfl⟩
      have ix := fun v => idxP (P := Tryd.prog) (g := gW) (off := 0) (len := 31) (cap := 31) Tryd.underlying61 (s := 4) (by kernel_rfl) .i64 j v hlt
      simp only [Nat.zero_add] at ix
      rw [hp] at ix
      obtain ⟨op, hopk⟩ : ∃ x, opR (dR j) = x := ⟨_, rfl⟩
      obtain ⟨NM, hNM⟩ : ∃ x : ByteArray, nmB (dR j) = x := ⟨_, rfl⟩
      obtain ⟨FS, hFS⟩ : ∃ x : ByteArray, x = ⟨((fsR (dR j)).map chK).toArray⟩ := ⟨_, rfl⟩
      have hcell : Hid (∀ v, Bx v gW WT 64 → v.cell? ⟨gW, p, none⟩ = some (.int .u8 (op : Int)) ∧ v.cell? ⟨gW, p + 2, none⟩ = some (.string FS) ∧ v.cell? ⟨gW, p + 3, none⟩ = some (.string NM)) := fun v h => by
        rw [hWT.out] at h
        have h1 := dw_at h j hlt
        rw [hp] at h1
        refine ⟨?_, ?_, ?_⟩
        · have := h1 0 (.int .u8 (op : Int)) (by rw [← hopk]; rfl)
          exact this
        · have := h1 2 (.string FS) (by rw [hFS]; rfl)
          exact this
        · have := h1 3 (.string NM) (by rw [← hNM]; rfl)
          exact this
      have iop : (op : Int) < 256 := by have := (op_bnd (dR j) (dR_lt j hlt)).2; omega
      have cs := hcell.out u (Ku.out.bx 1 _ _ _ rfl)
      have cW := cs.1
      have cO := (Ku.out.bx 0 _ _ _ rfl).c 0 _ sOC.out.2
      by_cases he : op = po
      · have hjj : j = j0 := dR_inj hlt hfacts.out.2.1 (by
          rw [hfacts.out.2.2.1]
          exact op_row i0 hfacts.out.1 (dR j) (dR_lt j hlt) (by rw [hopk, he, hfacts.out.2.2.2.1]))
        subst he
        have hii : dR j = i0 := by rw [hjj]; exact hfacts.out.2.2.1
        rw [hii] at hNM hFS
        have cN := cs.2.2
        have cF := cs.2.1
        have e1 : ((op : Int) == (op : Int)) = true := by simp
        obtain ⟨n, hn⟩ : ∃ n, Hid ((fsR i0).length = n) := ⟨_, (rfl : (fsR i0).length = _)⟩
        have hn3 : (n : Int) ≤ 3 := by have := fs_len3 i0 hfacts.out.1; have := hn.out; omega
        have hFn : (FS.size : Int) = (n : Int) := by
          rw [hFS, ← hn.out]
          show ((((fsR i0).map chK).toArray.size : Nat) : Int) = _
          simp
        have hFS' : Hid (FS = ⟨((fsR i0).map chK).toArray⟩) := hFS
        have hNM' : Hid (nmB i0 = NM) := hNM
        have hjj' : Hid (j = j0) := hjj
        clear hjj hii hp hopk hNM hFS hlt hj cs J
        go_wp2
        go_quiet (fail)
        go_wp2
        go_loopw [7, 9] (fun fs fk wz => ∃ (q : Nat) (T : ByteArray) (v : World), v = wz ∧ q ≤ n ∧ fs = .string T ∧ fk = .int .i64 (q : Int) ∧ Hid (Fm w [(w.heap.size, OC, 30), (gW, WT, 64)] v) ∧ Hid (T = linB NM o ((fsR i0).take q))) (fun _ fk _ => (n - intOf fk).toNat)
        case atStart => exact ⟨0, NM, _, rfl, Nat.zero_le _, rfl, rfl, by first | exact Ku.out.below (below_drewN (Below.refl _ _)) | exact Ku.out.drew | exact Ku, (rfl : NM = _)⟩
        case round =>
          obtain ⟨q, T, v, rfl, hqn, rfl, rfl, Kv, hT⟩ := hrel
          have csv := hcell.out v (Kv.out.bx 1 _ _ _ rfl)
          have cFv := csv.2.1
          clear csv cN cF cW cO
          by_cases hql : q < n
          · have hqi : (q : Int) < (n : Int) := by omega
            have hqF : (q : Int) < (FS.size : Int) := by omega
            have hql' : Hid (q < n) := hql
            obtain ⟨k, hk⟩ : ∃ k, (fsR i0)[q]? = some k := ⟨_, List.getElem?_eq_getElem (by rw [hn.out]; exact hql)⟩
            have hk5 : k < 5 := fs_lt i0 hfacts.out.1 k (List.mem_of_getElem? hk)
            have hix := fs_at i0 q k hk FS hFS'.out
            have hFi0 := fun z => rfield_any z k hk5 o hfacts.out.2.2.2.2.2
            rw [hOC.out] at hFi0
            have hb := fldB_W k o (hfacts.out.2.2.2.2.1 k (List.mem_of_getElem? hk))
            obtain ⟨FW, hFW⟩ : ∃ FW, fldW k o = FW := ⟨_, rfl⟩
            rw [hFW] at hFi0 hb
            obtain ⟨FK, hFK⟩ : ∃ FK, fsC k = FK := ⟨_, rfl⟩
            rw [hFK] at hix hFi0
            have hFi := hFi0
            have zT : T.size ≤ 40 := by
              rw [hT.out, ← hNM'.out]
              have h1 := linB_sz (nmB i0) o ((fsR i0).take q)
              have h2 := nmB_sz i0 hfacts.out.1
              have h4 : ((fsR i0).take q).length ≤ 3 := by rw [List.length_take]; omega
              omega
            have zF : FW.size ≤ 10 := by
              have h1 := congrArg ByteArray.size hb
              rw [ByteArray.size_append] at h1
              have h2 := fldB_sz k o
              omega
            have z1 : (⟨#[32]⟩ : ByteArray).size = 1 := rfl
            obtain ⟨TA, hTA⟩ : ∃ TA, T ++ (⟨#[32]⟩ : ByteArray) = TA := ⟨_, rfl⟩
            obtain ⟨T2, hT2⟩ : ∃ T2, TA ++ FW = T2 := ⟨_, rfl⟩
            have zA : TA.size ≤ 41 := by rw [← hTA, ByteArray.size_append]; omega
            have cat1 : ∀ z, (Op.stringOp .add T ⟨#[32]⟩).run Tryd.prog z = .ok (.string TA) z := fun z => by rw [← hTA]; exact cat_run Tryd.prog _ _ z (by omega)
            have cat2 : ∀ z, (Op.stringOp .add TA FW).run Tryd.prog z = .ok (.string T2) z := fun z => by rw [← hT2]; exact cat_run Tryd.prog _ _ z (by omega)
            have nxt : Hid (T2 = linB NM o ((fsR i0).take (q + 1))) := by
              show _ = _
              rw [linB_take NM o (fsR i0) q k hk, ← hT.out, ← hb, ← hT2, ← hTA, ByteArray.append_assoc]
            clear hFi0 hk hk5 hb hFW hFK zT zF z1 hTA hT2 zA hql hqn
            go_wp2
            refine region_class_tail 12 (Fm w [(w.heap.size, OC, 30), (gW, WT, 64)]) (by kernel_rfl) (by kernel_rfl) Kv.out.drew ?_
            simp only [List.take_succ_cons, List.take_zero, List.drop_succ_cons, List.drop_zero]
            with_reducible refine quiet_one (.string T) ?_ ?_ ?_
            · kernel_rfl
            · intro z hz
              go_simp
            with_reducible refine quiet_one (.string TA) ?_ ?_ ?_
            · kernel_rfl
            · intro z hz
              go_simp
            with_reducible refine quiet_one (.agg OC) ?_ ?_ ?_
            · kernel_rfl
            · intro z hz
              generalize ha : Act.put _ _ _ = a
              have hx : a.eval (.tmp 1) = .pointer (some ⟨w.heap.size, 0, none⟩) := by rw [← ha]; go_simp
              clear ha
              exact q_load rtO w.heap.size OC (fun u' h' => h'.bx 0 _ _ _ rfl) sOC.out.1 (.tmp 1) rfl hx z hz
            with_reducible refine quiet_one (.slice (some ⟨gW, 0, none⟩) 31 31) ?_ ?_ ?_
            · kernel_rfl
            · intro z hz
              go_simp
            with_reducible refine quiet_one (.int .i64 (j : Int)) ?_ ?_ ?_
            · kernel_rfl
            · intro z hz
              go_simp
            with_reducible refine quiet_one (.pointer (some ⟨gW, p, none⟩)) ?_ ?_ ?_
            · kernel_rfl
            · intro z hz
              go_simp
            with_reducible refine quiet_one (.pointer (some ⟨gW, p + 2, none⟩)) ?_ ?_ ?_
            · kernel_rfl
            · intro z hz
              go_simp
            with_reducible refine quiet_one (.string FS) ?_ ?_ ?_
            · kernel_rfl
            · intro z hz
              have x := (hcell.out z (hz.bx 1 _ _ _ rfl)).2.1
              go_simp
            with_reducible refine quiet_one (.int .i64 (q : Int)) ?_ ?_ ?_
            · kernel_rfl
            · intro z hz
              go_simp
            with_reducible refine quiet_one (.int .u8 (FK : Int)) ?_ ?_ ?_
            · kernel_rfl
            · intro z hz
              go_simp
            with_reducible refine quiet_one (.string FW) ?_ ?_ ?_
            · kernel_rfl
            · intro z hz
              go_simp
              exact (hFi z).mono fun e u' h' => ⟨h'.1, hz.below h'.2⟩
            with_reducible refine quiet_one (.string T2) ?_ ?_ ?_
            · kernel_rfl
            · intro z hz
              go_simp
            refine wpQuiet_nil ?_
            intro z3 K3
            have K3 : Hid (Fm w [(w.heap.size, OC, 30), (gW, WT, 64)] z3) := K3
            go_simp
            go_wp2
            go_roundw
            case rel => exact ⟨q + 1, T2, z3, rfl, hql'.out, rfl, by simp, K3, nxt⟩
            case measure => have := hql'.out; simp [intOf]; omega
          · have hqe : q = n := by omega
            have hS2 : Hid (T = fin) := by
              show _ = _
              rw [hT.out, hqe, List.take_of_length_le (by rw [hn.out]; exact Nat.le_refl _), ← hNM'.out]
              exact hlin.out
            have J2 : Hid ((j + 1 ≤ j0 → T = ⟨#[]⟩) ∧ (j0 < j + 1 → T = fin)) := ⟨fun h => absurd hjj'.out (by omega), fun _ => hS2.out⟩
            have hqF : ¬ (q : Int) < (FS.size : Int) := by omega
            clear hql hqn hqe
            go_wp2
            go_roundw
            case rel => exact ⟨j + 1, T, v, rfl, hj'.out, rfl, by simp, Kv, J2⟩
            case measure => have := hj'.out; simp [intOf]; omega
      · have e1 : ((op : Int) == (po : Int)) = false := by simp; omega
        have hne : j ≠ j0 := fun e => he (by rw [← hopk, e, hfacts.out.2.2.1, hfacts.out.2.2.2.1])
        have J2 : Hid ((j + 1 ≤ j0 → S = ⟨#[]⟩) ∧ (j0 < j + 1 → S = fin)) := ⟨fun h => J.out.1 (by omega), fun h => J.out.2 (by omega)⟩
        clear he hne hp hopk hNM hFS hlt hj cs
        go_wp2
        go_quiet (fail)
        go_wp2
        go_roundw
        case rel => exact ⟨j + 1, S, _, rfl, hj'.out, rfl, by simp, by first | exact Ku.out.below (below_drewN (Below.refl _ _)) | exact Ku.out.drew | exact Ku, J2⟩
        case measure => have := hj'.out; simp [intOf]; omega
    · have hje : j = 31 := by omega
      have hS : Hid (S = fin) := J.out.2 (by have := hfacts.out.2.1; omega)
      have hS' := hS.out
      subst hS'
      subst hje
      clear hlt
      go_wp2
      go_ret2
      exact ⟨rfl, Ku.out.low⟩
theorem rprint_any (w : World) (o : Od) (ho : OdR o) : Calls Tryd.prog 11 #[.agg (o6 o)] w fun e w' => e = .returned (.tuple #[.string (if (encW o).isSome then lineB o else ⟨#[]⟩), .int .i64 (if (encW o).isSome then 0 else 160)]) ∧ Below w.heap.size w w' := by
  rcases he : encW o with _ | x
  · exact rprint_no w o ho he
  · exact rprint_yes w o ho x he
end Go.Proofs.YthaijjehplomfaaDoor
