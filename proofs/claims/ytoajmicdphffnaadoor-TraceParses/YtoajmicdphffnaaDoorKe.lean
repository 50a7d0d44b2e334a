/- Which records may be, where two traces part, by the document. -/
import Derived.Test.YtoajmicdphffnaaDoorKd
namespace Go.Proofs.YtoajmicdphffnaaDoor
open Go Go.RowKit
set_option linter.unusedVariables false
set_option maxHeartbeats 1000000
set_option maxRecDepth 20000

theorem rmay_any (w : World) (r : Rc) : Calls Tryd.prog 69 #[.agg (rcC r)] w fun e w' => e = .returned (.bool (mayR r)) ∧ Below w.heap.size w w' := by
  have hF : Hid (Fm w [(w.heap.size, rcC r, 45)] (w.alloc (.cells (rcC r) 45))) := Fm.one w _ _
  unfold mayR
  obtain ⟨co, hco⟩ : ∃ x, r.co = x := ⟨_, rfl⟩
  obtain ⟨po, hpo⟩ : ∃ x, r.po = x := ⟨_, rfl⟩
  obtain ⟨mo, hmo⟩ : ∃ x, r.mo = x := ⟨_, rfl⟩
  obtain ⟨re, hre⟩ : ∃ x, r.re = x := ⟨_, rfl⟩
  obtain ⟨wr, hwr⟩ : ∃ x, r.wr = x := ⟨_, rfl⟩
  rw [hco, hpo, hmo, hre, hwr]
  obtain ⟨b1, q1⟩ : ∃ b, decide (co ≤ 3) = b := ⟨_, rfl⟩
  obtain ⟨b2, q2⟩ : ∃ b, decide (po ≤ 7) = b := ⟨_, rfl⟩
  obtain ⟨b3, q3⟩ : ∃ b, decide (mo ≤ 3) = b := ⟨_, rfl⟩
  rw [q1, q2, q3]
  replace hco : Hid _ := hco
  replace hpo : Hid _ := hpo
  replace hmo : Hid _ := hmo
  replace hre : Hid _ := hre
  replace hwr : Hid _ := hwr
  cases b1 <;> cases b2 <;> cases b3 <;> cases re <;> cases wr
  all_goals
    go_enter Tryd.func69, Tryd.ntmps69
    go_wp2_with ((with_reducible refine gen_world (w.alloc (.cells (rcC r) 45)) (Fm w [(w.heap.size, rcC r, 45)]) hF.out ?_); intro y K; have d0 := (K.out.bx 0 _ _ _ rfl).c 0 _ (rcC_co r); rw [hco.out] at d0; have d3 := (K.out.bx 0 _ _ _ rfl).c 3 _ (rcC_re r); rw [hre.out] at d3; have d4 := (K.out.bx 0 _ _ _ rfl).c 4 _ (rcC_wr r); rw [hwr.out] at d4; have d5 := (K.out.bx 0 _ _ _ rfl).c 5 _ (rcC_po r); rw [hpo.out] at d5; have d7 := (K.out.bx 0 _ _ _ rfl).c 7 _ (rcC_mo r); rw [hmo.out] at d7)
    go_ret
    exact ⟨by first | rfl | simp, K.out.low⟩
theorem rcheck_any (w : World) (sp : Option Addr) (cap : Nat) (l : List Rc) (hl : Hid (LiesR w sp l)) (hn : l.length ≤ 9223372036854775807) :
    Calls Tryd.prog 32 #[.slice sp l.length cap] w fun e w' => e = .returned (.int .i64 (checkR l)) ∧ Below w.heap.size w w' := by
  obtain ⟨n, hn'⟩ : ∃ n, l.length = n := ⟨_, rfl⟩
  have ni : (n : Int) ≤ 9223372036854775807 := by omega
  by_cases hbig : 4194304 < n
  · have e : checkR l = 2 := by unfold checkR; rw [if_pos (by omega)]
    rw [e, hn']
    have q : decide ((4194304 : Int) < n) = true := by simp; omega
    clear hbig hn hn' e
    go_enter Tryd.func32, Tryd.ntmps32
    go_wp2
    go_ret
    exact ⟨rfl, Below.refl _ _⟩
  obtain ⟨R, hR⟩ : ∃ R, checkR l = R := ⟨_, rfl⟩
  have hR' : Hid (R = if allM l then 0 else 1) := by
    show _ = _
    rw [← hR]
    unfold checkR
    rw [if_neg (by omega)]
  rw [hR, hn']
  have q : decide ((4194304 : Int) < n) = false := by simp; omega
  have hl' : Hid (l.length = n) := hn'
  have ni4 : (n : Int) ≤ 4194304 := by omega
  clear hR hbig hn hn' ni
  go_enter Tryd.func32, Tryd.ntmps32
  go_wp2
  go_loopw [3] (fun i wz => ∃ (j : Nat) (y : World), y = wz ∧ i = .int .i64 (j : Int) ∧ Hid (j ≤ n ∧ allM l = allM (l.drop j)) ∧ Hid (Below w.heap.size w y)) (fun i _ => (n - intOf i).toNat)
  case atStart => exact ⟨0, w, rfl, rfl, ⟨by omega, rfl⟩, Below.refl _ _⟩
  case round =>
    obtain ⟨j, y, rfl, rfl, J, K⟩ := hrel
    by_cases hlt : j < n
    · obtain ⟨s, hs, hdrop⟩ := at_list hl'.out hlt
      obtain ⟨gb, ob, rfl, hc⟩ := hl.out j s hs
      have hc : Hid (y.rangeAt gb (ob + j * 8) (rcC s).toList) := range_keep hc K.out
      have ij := fun v => idxP (g := gb) (off := ob) (len := n) (cap := cap) Tryd.underlying23 (s := 8) (by kernel_rfl) .i64 j v hlt
      have hji : (j : Int) < n := by omega
      have hlt' : Hid (j < n) := hlt
      have hM := rmay_any y s
      have K2 : Hid (allM l = (mayR s && allM (l.drop (j + 1)))) := by
        have h := J.out.2
        rw [hdrop] at h
        exact h
      obtain ⟨b, hb⟩ : ∃ b, mayR s = b := ⟨_, rfl⟩
      rw [hb] at hM K2
      replace hs : Hid _ := hs
      replace hdrop : Hid _ := hdrop
      clear hlt hb
      cases b
      · have fin : Hid (R = 1) := by
          show R = 1
          rw [hR'.out, K2.out]
          rfl
        go_wp2_with (first
          | ((with_reducible refine at_loadm rtR gb (ob + j * 8) (rcC s) ?_ ?_ (.tmp 16) ?_ ?_ ?_ ?_); exact hc.out; rfl; kernel_rfl; rfl; rfl)
          | (go_at_call 69; refine hM.mono ?_; rintro e y2 ⟨rfl, h2⟩; have U2 : Hid (Below w.heap.size w y2) := K.out.trans (h2.mono K.out.size); clear h2))
        go_ret
        exact ⟨by rw [fin.out]; rfl, U2.out⟩
      · have fin : Hid (allM l = allM (l.drop (j + 1))) := by
          show _ = _
          rw [K2.out]
          rfl
        go_wp2_with (first
          | ((with_reducible refine at_loadm rtR gb (ob + j * 8) (rcC s) ?_ ?_ (.tmp 16) ?_ ?_ ?_ ?_); exact hc.out; rfl; kernel_rfl; rfl; rfl)
          | (go_at_call 69; refine hM.mono ?_; rintro e y2 ⟨rfl, h2⟩; have U2 : Hid (Below w.heap.size w y2) := K.out.trans (h2.mono K.out.size); clear h2))
        go_roundw
        case rel => exact ⟨j + 1, _, rfl, by simp, ⟨by have := hlt'.out; omega, fin.out⟩, U2⟩
        case measure => have := hlt'.out; simp [intOf]; omega
    · have hje : j = n := by have := J.out.1; omega
      subst hje
      have fin : Hid (R = 0) := by
        have h1 := J.out.2
        rw [List.drop_eq_nil_of_le (by rw [hl'.out]; exact Nat.le_refl _)] at h1
        show R = 0
        rw [hR'.out, h1]
        rfl
      clear hlt
      go_wp2
      go_ret
      exact ⟨by rw [fin.out]; rfl, K.out⟩
theorem rapart_any (w : World) (pa pb : Option Addr) (ca cb : Nat) (a b : List Rc) (ha : Hid (LiesR w pa a)) (hb : Hid (LiesR w pb b)) (hna : a.length ≤ 9223372036854775807) (hnb : b.length ≤ 9223372036854775807) :
    Calls Tryd.prog 23 #[.slice pa a.length ca, .slice pb b.length cb] w fun e w' => e = .returned (.int .i64 (apartR a b)) ∧ Below w.heap.size w w' := by
  obtain ⟨n, hn⟩ : ∃ n, a.length = n := ⟨_, rfl⟩
  obtain ⟨m, hm⟩ : ∃ n, b.length = n := ⟨_, rfl⟩
  rw [hn, hm]
  have hn' : Hid (a.length = n ∧ b.length = m) := ⟨hn, hm⟩
  have n1 : (n : Int) ≤ 9223372036854775807 := by omega
  have m1 : (m : Int) ≤ 9223372036854775807 := by omega
  obtain ⟨R, hR⟩ : ∃ R, apartR a b = R := ⟨_, rfl⟩
  rw [hR]
  replace hR : Hid _ := hR
  clear hna hnb hn hm
  go_enter Tryd.func23, Tryd.ntmps23
  go_wp2
  go_loopw [5] (fun i wz => ∃ (j : Nat) (x : World), x = wz ∧ i = .int .i64 (j : Int) ∧ Hid (j ≤ n ∧ j ≤ m ∧ apartGo (a.drop j) (b.drop j) j = R) ∧ Hid (Below w.heap.size w x)) (fun i _ => (n - intOf i).toNat)
  case atStart => exact ⟨0, w, rfl, rfl, ⟨by omega, by omega, hR.out⟩, Below.refl _ _⟩
  case round =>
    obtain ⟨j, x, rfl, rfl, K, U⟩ := hrel
    by_cases hlt : j < n
    · by_cases hltm : j < m
      · obtain ⟨s, hs, hds⟩ := at_list hn'.out.1 hlt
        obtain ⟨t, ht, hdt⟩ := at_list hn'.out.2 hltm
        obtain ⟨ga, oa, rfl, ca'⟩ := ha.out j s hs
        obtain ⟨gb, ob, rfl, cb'⟩ := hb.out j t ht
        have i1 := fun w => idxP (g := ga) (off := oa) (len := n) (cap := ca) Tryd.underlying23 (s := 8) (by kernel_rfl) .i64 j w hlt
        have i2 := fun w => idxP (g := gb) (off := ob) (len := m) (cap := cb) Tryd.underlying23 (s := 8) (by kernel_rfl) .i64 j w hltm
        have hE : Hid _ := eqR s t
        have hji : (j : Int) < n := by omega
        have hjm : (j : Int) < m := by omega
        have hlt' : Hid (j < n ∧ j < m) := ⟨hlt, hltm⟩
        have K2 : Hid ((if rcB s t then apartGo (a.drop (j + 1)) (b.drop (j + 1)) (j + 1) else (j : Int)) = R) := by
          have := K.out.2.2
          rw [hds, hdt] at this
          exact this
        have R1 : Hid (w.rangeAt ga (oa + j * 8) (rcC s).toList) := ca'
        have R2 : Hid (w.rangeAt gb (ob + j * 8) (rcC t).toList) := cb'
        obtain ⟨q, hq'⟩ : ∃ q, rcB s t = q := ⟨_, rfl⟩
        rw [hq'] at hE K2
        clear hs ht hds hdt ca' cb' hlt hltm hq'
        go_wp2
        refine region_class_tail 8 (Below w.heap.size w) (by kernel_rfl) (by kernel_rfl) (U.out.trans (below_drew (Below.refl _ _))) ?_
        simp only [List.take_succ_cons, List.take_zero, List.drop_succ_cons, List.drop_zero]
        with_reducible refine quiet_one (.slice (some ⟨ga, oa, none⟩) n ca) ?_ ?_ ?_
        · kernel_rfl
        · intro u hy
          go_simp
        with_reducible refine quiet_one (.int .i64 (j : Int)) ?_ ?_ ?_
        · kernel_rfl
        · intro u hy
          go_simp
        with_reducible refine quiet_one (.pointer (some ⟨ga, oa + j * 8, none⟩)) ?_ ?_ ?_
        · kernel_rfl
        · intro u hy
          go_simp
        with_reducible refine quiet_one (.agg (rcC s)) ?_ ?_ ?_
        · kernel_rfl
        · intro u hy
          generalize hA : Act.put _ _ _ = A
          have e1 : A.eval (.tmp 20) = .pointer (some ⟨ga, oa + j * 8, none⟩) := by rw [← hA]; go_simp
          clear hA
          exact q_loadm (C := Below w.heap.size w) rtR ga (oa + j * 8) (rcC s) (fun _ h => range_keep R1.out h) rfl (.tmp 20) rfl e1 u hy
        with_reducible refine quiet_one (.slice (some ⟨gb, ob, none⟩) m cb) ?_ ?_ ?_
        · kernel_rfl
        · intro u hy
          go_simp
        with_reducible refine quiet_one (.int .i64 (j : Int)) ?_ ?_ ?_
        · kernel_rfl
        · intro u hy
          go_simp
        with_reducible refine quiet_one (.pointer (some ⟨gb, ob + j * 8, none⟩)) ?_ ?_ ?_
        · kernel_rfl
        · intro u hy
          go_simp
        with_reducible refine quiet_one (.agg (rcC t)) ?_ ?_ ?_
        · kernel_rfl
        · intro u hy
          generalize hA : Act.put _ _ _ = A
          have e1 : A.eval (.tmp 24) = .pointer (some ⟨gb, ob + j * 8, none⟩) := by rw [← hA]; go_simp
          clear hA
          exact q_loadm (C := Below w.heap.size w) rtR gb (ob + j * 8) (rcC t) (fun _ h => range_keep R2.out h) rfl (.tmp 24) rfl e1 u hy
        refine wpQuiet_nil ?_
        intro z0 U0
        replace U0 : Hid _ := U0
        go_simp
        cases q
        · go_wp2_with ((with_reducible refine at_ne hE.out (.tmp 21) (.tmp 25) 45 ?_ ?_ ?_ ?_ ?_); kernel_rfl; rfl; rfl; rfl)
          go_ret
          exact ⟨by have := K2.out; rw [← this]; rfl, U0.out⟩
        · go_wp2_with ((with_reducible refine at_ne hE.out (.tmp 21) (.tmp 25) 45 ?_ ?_ ?_ ?_ ?_); kernel_rfl; rfl; rfl; rfl)
          go_roundw
          case rel => exact ⟨j + 1, _, rfl, by simp, ⟨by have := hlt'.out; omega, by have := hlt'.out; omega, by have := K2.out; simpa using this⟩, U0⟩
          case measure => have := hlt'.out; simp [intOf]; omega
      · have hje : j = m := by have := K.out.2.1; omega
        subst hje
        have fin : Hid (R = (j : Int)) := by
          obtain ⟨s, hs, hds⟩ := at_list hn'.out.1 hlt
          have := K.out.2.2
          rw [hds, List.drop_eq_nil_of_le (show b.length ≤ _ by rw [hn'.out.2]; exact Nat.le_refl _)] at this
          exact this.symm
        have hji : (j : Int) < n := by omega
        have q : ((n : Int) == (j : Int)) = false := by simp; omega
        clear hlt hltm
        go_wp2
        go_ret
        exact ⟨by rw [fin.out]; first | rfl | (congr 2; omega) | (congr 2; simp; omega), U.out⟩
    · have hje : j = n := by have := K.out.1; omega
      subst hje
      by_cases hem : j = m
      · subst hem
        have fin : Hid (R = -1) := by
          have := K.out.2.2
          rw [List.drop_eq_nil_of_le (show a.length ≤ _ by rw [hn'.out.1]; exact Nat.le_refl _), List.drop_eq_nil_of_le (show b.length ≤ _ by rw [hn'.out.2]; exact Nat.le_refl _)] at this
          exact this.symm
        have q : ((j : Int) == (j : Int)) = true := by simp
        clear hlt
        go_wp2
        go_ret
        exact ⟨by rw [fin.out]; rfl, U.out⟩
      · have hjm : j < m := by have := K.out.2.1; omega
        have fin : Hid (R = (j : Int)) := by
          obtain ⟨s, hs, hds⟩ := at_list hn'.out.2 hjm
          have := K.out.2.2
          rw [hds, List.drop_eq_nil_of_le (show a.length ≤ _ by rw [hn'.out.1]; exact Nat.le_refl _)] at this
          exact this.symm
        have q : ((j : Int) == (m : Int)) = false := by simp; omega
        have hji : (j : Int) < m := by omega
        clear hlt hem
        go_wp2
        go_ret
        exact ⟨by rw [fin.out]; first | rfl | (congr 2; omega) | (congr 2; simp; omega), U.out⟩
theorem same_any (w : World) (pa pb : Option Addr) (ca cb : Nat) (a b : List Rc) (ha : Hid (LiesR w pa a)) (hb : Hid (LiesR w pb b)) (hna : a.length ≤ 9223372036854775807) (hnb : b.length ≤ 9223372036854775807) :
    Calls Tryd.prog 34 #[.slice pa a.length ca, .slice pb b.length cb] w fun e w' => e = .returned (.bool (decide (apartR a b < 0))) ∧ Below w.heap.size w w' := by
  have hA := rapart_any w pa pb ca cb a b ha hb hna hnb
  obtain ⟨n, hn⟩ : ∃ n, a.length = n := ⟨_, rfl⟩
  obtain ⟨m, hm⟩ : ∃ n, b.length = n := ⟨_, rfl⟩
  obtain ⟨R, hR⟩ : ∃ R, apartR a b = R := ⟨_, rfl⟩
  rw [hn, hm, hR] at hA ⊢
  clear hn hm hR hna hnb
  go_enter Tryd.func34, Tryd.ntmps34
  go_wp2_with (go_at_call 23; refine hA.mono ?_; rintro e y ⟨rfl, hb1⟩; replace hb1 : Hid _ := hb1)
  go_ret
  exact ⟨by first | rfl | simp, hb1.out⟩
theorem same_eq (w : World) (pa pb : Option Addr) (ca cb : Nat) (a : List Rc) (ha : Hid (LiesR w pa a)) (hb : Hid (LiesR w pb a)) (hna : a.length ≤ 9223372036854775807) :
    Calls Tryd.prog 34 #[.slice pa a.length ca, .slice pb a.length cb] w fun e w' => e = .returned (.bool true) ∧ Below w.heap.size w w' := by
  have := same_any w pa pb ca cb a a ha hb hna hna
  rw [show apartR a a = -1 from apart_same a 0] at this
  exact this
end Go.Proofs.YtoajmicdphffnaaDoor
