/- Which records may be, where two traces part, by the document. -/
import Derived.Test.YtoajmicdphffnabDoorKd
namespace Go.Proofs.YtoajmicdphffnabDoor
open Go Go.RowKit
set_option linter.unusedVariables false
set_option maxHeartbeats 1000000
set_option maxRecDepth 20000

theorem rapart_any (w : World) (pa pb : Option Addr) (ca cb : Nat) (a b : List Rc) (ha : Hid (LiesR w pa a)) (hb : Hid (LiesR w pb b)) (hna : a.length ≤ 9223372036854775807) (hnb : b.length ≤ 9223372036854775807) :
    Calls Tryd.prog 25 #[.slice pa a.length ca, .slice pb b.length cb] w fun e w' => e = .returned (.int .i64 (apartR a b)) ∧ Below w.heap.size w w' := by
  obtain ⟨n, hn⟩ : ∃ n, a.length = n := ⟨_, rfl⟩
  obtain ⟨m, hm⟩ : ∃ n, b.length = n := ⟨_, rfl⟩
  rw [hn, hm]
  have hn' : Hid (a.length = n ∧ b.length = m) := ⟨hn, hm⟩
  have n1 : (n : Int) ≤ 9223372036854775807 := by omega
  have m1 : (m : Int) ≤ 9223372036854775807 := by omega
  obtain ⟨R, hR⟩ : ∃ R, apartR a b = R := ⟨_, rfl⟩
  rw [hR]
  replace hR : Hid _ := hR
  clear hna hnb hn hm
  go_enter Tryd.func25, Tryd.ntmps25
  go_wp2
  go_loopw [5] (fun i wz => ∃ (j : Nat) (x : World), x = wz ∧ i = .int .i64 (j : Int) ∧ Hid (j ≤ n ∧ j ≤ m ∧ apartGo (a.drop j) (b.drop j) j = R) ∧ Hid (Below w.heap.size w x)) (fun i _ => (n - intOf i).toNat)
  case atStart => exact ⟨0, w, rfl, rfl, ⟨by omega, by omega, hR.out⟩, Below.refl _ _⟩
  case round =>
    obtain ⟨j, x, rfl, rfl, K, U⟩ := hrel
    by_cases hlt : j < n
    · by_cases hltm : j < m
      · obtain ⟨s, hs, hds⟩ := at_list hn'.out.1 hlt
        obtain ⟨t, ht, hdt⟩ := at_list hn'.out.2 hltm
        obtain ⟨ga, oa, rfl, ca'⟩ := ha.out j s hs
        obtain ⟨gb, ob, rfl, cb'⟩ := hb.out j t ht
        have i1 := fun w => idxP (g := ga) (off := oa) (len := n) (cap := ca) Tryd.underlying22 (s := 8) (by kernel_rfl) .i64 j w hlt
        have i2 := fun w => idxP (g := gb) (off := ob) (len := m) (cap := cb) Tryd.underlying22 (s := 8) (by kernel_rfl) .i64 j w hltm
        have hE : Hid _ := eqR s t
        have hji : (j : Int) < n := by omega
        have hjm : (j : Int) < m := by omega
        have hlt' : Hid (j < n ∧ j < m) := ⟨hlt, hltm⟩
        have K2 : Hid ((if rcB s t then apartGo (a.drop (j + 1)) (b.drop (j + 1)) (j + 1) else (j : Int)) = R) := by
          have := K.out.2.2
          rw [hds, hdt] at this
          exact this
        have R1 : Hid (w.rangeAt ga (oa + j * 8) (rcC s).toList) := ca'
        have R2 : Hid (w.rangeAt gb (ob + j * 8) (rcC t).toList) := cb'
        obtain ⟨q, hq'⟩ : ∃ q, rcB s t = q := ⟨_, rfl⟩
        rw [hq'] at hE K2
        clear hs ht hds hdt ca' cb' hlt hltm hq'
        go_wp2
        refine region_class_tail 8 (Below w.heap.size w) (by kernel_rfl) (by kernel_rfl) (U.out.trans (below_drew (Below.refl _ _))) ?_
        simp only [List.take_succ_cons, List.take_zero, List.drop_succ_cons, List.drop_zero]
        with_reducible refine quiet_one (.slice (some ⟨ga, oa, none⟩) n ca) ?_ ?_ ?_
        · kernel_rfl
        · intro u hy
          go_simp
        with_reducible refine quiet_one (.int .i64 (j : Int)) ?_ ?_ ?_
        · kernel_rfl
        · intro u hy
          go_simp
        with_reducible refine quiet_one (.pointer (some ⟨ga, oa + j * 8, none⟩)) ?_ ?_ ?_
        · kernel_rfl
        · intro u hy
          go_simp
        with_reducible refine quiet_one (.agg (rcC s)) ?_ ?_ ?_
        · kernel_rfl
        · intro u hy
          generalize hA : Act.put _ _ _ = A
          have e1 : A.eval (.tmp 20) = .pointer (some ⟨ga, oa + j * 8, none⟩) := by rw [← hA]; go_simp
          clear hA
          exact q_loadm (C := Below w.heap.size w) rtR ga (oa + j * 8) (rcC s) (fun _ h => range_keep R1.out h) rfl (.tmp 20) rfl e1 u hy
        with_reducible refine quiet_one (.slice (some ⟨gb, ob, none⟩) m cb) ?_ ?_ ?_
        · kernel_rfl
        · intro u hy
          go_simp
        with_reducible refine quiet_one (.int .i64 (j : Int)) ?_ ?_ ?_
        · kernel_rfl
        · intro u hy
          go_simp
        with_reducible refine quiet_one (.pointer (some ⟨gb, ob + j * 8, none⟩)) ?_ ?_ ?_
        · kernel_rfl
        · intro u hy
          go_simp
        with_reducible refine quiet_one (.agg (rcC t)) ?_ ?_ ?_
        · kernel_rfl
        · intro u hy
          generalize hA : Act.put _ _ _ = A
          have e1 : A.eval (.tmp 24) = .pointer (some ⟨gb, ob + j * 8, none⟩) := by rw [← hA]; go_simp
          clear hA
          exact q_loadm (C := Below w.heap.size w) rtR gb (ob + j * 8) (rcC t) (fun _ h => range_keep R2.out h) rfl (.tmp 24) rfl e1 u hy
        refine wpQuiet_nil ?_
        intro z0 U0
        replace U0 : Hid _ := U0
        go_simp
        cases q
        · go_wp2_with ((with_reducible refine at_ne hE.out (.tmp 21) (.tmp 25) 45 ?_ ?_ ?_ ?_ ?_); kernel_rfl; rfl; rfl; rfl)
          go_ret
          exact ⟨by have := K2.out; rw [← this]; rfl, U0.out⟩
        · go_wp2_with ((with_reducible refine at_ne hE.out (.tmp 21) (.tmp 25) 45 ?_ ?_ ?_ ?_ ?_); kernel_rfl; rfl; rfl; rfl)
          go_roundw
          case rel => exact ⟨j + 1, _, rfl, by simp, ⟨by have := hlt'.out; omega, by have := hlt'.out; omega, by have := K2.out; simpa using this⟩, U0⟩
          case measure => have := hlt'.out; simp [intOf]; omega
      · have hje : j = m := by have := K.out.2.1; omega
        subst hje
        have fin : Hid (R = (j : Int)) := by
          obtain ⟨s, hs, hds⟩ := at_list hn'.out.1 hlt
          have := K.out.2.2
          rw [hds, List.drop_eq_nil_of_le (show b.length ≤ _ by rw [hn'.out.2]; exact Nat.le_refl _)] at this
          exact this.symm
        have hji : (j : Int) < n := by omega
        have q : ((n : Int) == (j : Int)) = false := by simp; omega
        clear hlt hltm
        go_wp2
        go_ret
        exact ⟨by rw [fin.out]; first | rfl | (congr 2; omega) | (congr 2; simp; omega), U.out⟩
    · have hje : j = n := by have := K.out.1; omega
      subst hje
      by_cases hem : j = m
      · subst hem
        have fin : Hid (R = -1) := by
          have := K.out.2.2
          rw [List.drop_eq_nil_of_le (show a.length ≤ _ by rw [hn'.out.1]; exact Nat.le_refl _), List.drop_eq_nil_of_le (show b.length ≤ _ by rw [hn'.out.2]; exact Nat.le_refl _)] at this
          exact this.symm
        have q : ((j : Int) == (j : Int)) = true := by simp
        clear hlt
        go_wp2
        go_ret
        exact ⟨by rw [fin.out]; rfl, U.out⟩
      · have hjm : j < m := by have := K.out.2.1; omega
        have fin : Hid (R = (j : Int)) := by
          obtain ⟨s, hs, hds⟩ := at_list hn'.out.2 hjm
          have := K.out.2.2
          rw [hds, List.drop_eq_nil_of_le (show a.length ≤ _ by rw [hn'.out.1]; exact Nat.le_refl _)] at this
          exact this.symm
        have q : ((j : Int) == (m : Int)) = false := by simp; omega
        have hji : (j : Int) < m := by omega
        clear hlt hem
        go_wp2
        go_ret
        exact ⟨by rw [fin.out]; first | rfl | (congr 2; omega) | (congr 2; simp; omega), U.out⟩
theorem same_any (w : World) (pa pb : Option Addr) (ca cb : Nat) (a b : List Rc) (ha : Hid (LiesR w pa a)) (hb : Hid (LiesR w pb b)) (hna : a.length ≤ 9223372036854775807) (hnb : b.length ≤ 9223372036854775807) :
    Calls Tryd.prog 7 #[.slice pa a.length ca, .slice pb b.length cb] w fun e w' => e = .returned (.bool (decide (apartR a b < 0))) ∧ Below w.heap.size w w' := by
  have hA := rapart_any w pa pb ca cb a b ha hb hna hnb
  obtain ⟨n, hn⟩ : ∃ n, a.length = n := ⟨_, rfl⟩
  obtain ⟨m, hm⟩ : ∃ n, b.length = n := ⟨_, rfl⟩
  obtain ⟨R, hR⟩ : ∃ R, apartR a b = R := ⟨_, rfl⟩
  rw [hn, hm, hR] at hA ⊢
  clear hn hm hR hna hnb
  go_enter Tryd.func7, Tryd.ntmps7
  go_wp2_with (go_at_call 25; refine hA.mono ?_; rintro e y ⟨rfl, hb1⟩; replace hb1 : Hid _ := hb1)
  go_ret
  exact ⟨by first | rfl | simp, hb1.out⟩
theorem same_eq (w : World) (pa pb : Option Addr) (ca cb : Nat) (a : List Rc) (ha : Hid (LiesR w pa a)) (hb : Hid (LiesR w pb a)) (hna : a.length ≤ 9223372036854775807) :
    Calls Tryd.prog 7 #[.slice pa a.length ca, .slice pb a.length cb] w fun e w' => e = .returned (.bool true) ∧ Below w.heap.size w w' := by
  have := same_any w pa pb ca cb a a ha hb hna hna
  rw [show apartR a a = -1 from apart_same a 0] at this
  exact this
end Go.Proofs.YtoajmicdphffnabDoor
