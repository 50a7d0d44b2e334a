/- Two scripts held against each other, the mode of a span, whether two are alike, by the document. -/
import Derived.Test.YthpahpfnpapoiaaDoorXe
namespace Go.Proofs.YthpahpfnpapoiaaDoor
open Go Go.RowKit
set_option linter.unusedVariables false
set_option maxHeartbeats 400000
set_option maxRecDepth 20000

def snB (x y : Sn) : Bool := x.c == y.c && atB x.a y.a
theorem snB_iff (x y : Sn) : snB x y = true ↔ x = y := by
  unfold snB
  rw [Bool.and_eq_true, atB_iff]
  cases x
  cases y
  simp
theorem eqS (x y : Sn) : Eqs Tryd.prog 34 (spC x) (spC y) (snB x y) := ⟨by kernel_rfl, fun w => by
  unfold spC
  go_simp
  unfold snB atB
  (repeat' split) <;> simp_all⟩
def sameB : List Sn → List Sn → Bool
  | [], [] => true
  | x :: a, y :: b => snB x y && sameB a b
  | _, _ => false
theorem sameB_iff (a : List Sn) : ∀ b, sameB a b = true ↔ a = b := by
  induction a with
  | nil => intro b; cases b <;> simp [sameB]
  | cons x a ih => intro b; cases b <;> simp [sameB, ih, snB_iff]
theorem sameB_len (a : List Sn) : ∀ b, a.length ≠ b.length → sameB a b = false := by
  intro b h
  cases hs : sameB a b
  · rfl
  · exact absurd (congrArg List.length ((sameB_iff a b).1 hs)) h
theorem rsame_any (w : World) (pa pb : Option Addr) (ca cb : Nat) (a b : List Sn) (ha : Hid (LiesS w pa a)) (hb : Hid (LiesS w pb b)) (hna : a.length ≤ 9223372036854775807) (hnb : b.length ≤ 9223372036854775807) :
    Calls Tryd.prog 29 #[.slice pa a.length ca, .slice pb b.length cb] w fun e w' => e = .returned (.bool (sameB a b)) ∧ Below w.heap.size w w' := by
  by_cases hne : a.length ≠ b.length
  · rw [sameB_len a b hne]
    obtain ⟨n, hn⟩ : ∃ n, a.length = n := ⟨_, rfl⟩
    obtain ⟨m, hm⟩ : ∃ m, b.length = m := ⟨_, rfl⟩
    rw [hn, hm] at hne ⊢
    have q : ((n : Int) != (m : Int)) = true := by simp; omega
    have n1 : (n : Int) ≤ 9223372036854775807 := by omega
    have n2 : (m : Int) ≤ 9223372036854775807 := by omega
    clear hn hm hne hna hnb
    go_enter Tryd.func29, Tryd.ntmps29
    go_wp2
    go_ret
    exact ⟨rfl, Below.refl _ _⟩
  replace hne : a.length = b.length := by omega
  obtain ⟨n, hn⟩ : ∃ n, a.length = n := ⟨_, rfl⟩
  rw [← hne, hn]
  have hn' : Hid (a.length = n ∧ b.length = n) := ⟨hn, by omega⟩
  have n1 : (n : Int) ≤ 9223372036854775807 := by omega
  have hq : ((n : Int) != n) = false := by simp
  obtain ⟨R, hR⟩ : ∃ R, sameB a b = R := ⟨_, rfl⟩
  rw [hR]
  replace hR : Hid _ := hR
  clear hna hnb hne hn
  go_enter Tryd.func29, Tryd.ntmps29
  go_wp2
  go_loopw [5] (fun i wz => ∃ (j : Nat) (x : World), x = wz ∧ i = .int .i64 (j : Int) ∧ Hid (j ≤ n ∧ sameB (a.drop j) (b.drop j) = R) ∧ Hid (Below w.heap.size w x)) (fun i _ => (n - intOf i).toNat)
  case atStart => exact ⟨0, w, rfl, rfl, ⟨by omega, hR.out⟩, Below.refl _ _⟩
  case round =>
    obtain ⟨j, x, rfl, rfl, K, U⟩ := hrel
    by_cases hlt : j < n
    · obtain ⟨s, hs, hds⟩ := at_list hn'.out.1 hlt
      obtain ⟨t, ht, hdt⟩ := at_list hn'.out.2 hlt
      obtain ⟨ga, oa, rfl, ca'⟩ := ha.out j s hs
      obtain ⟨gb, ob, rfl, cb'⟩ := hb.out j t ht
      have i1 := fun w => idxP (g := ga) (off := oa) (len := n) (cap := ca) Tryd.underlying23 (s := 10) (by kernel_rfl) .i64 j w hlt
      have i2 := fun w => idxP (g := gb) (off := ob) (len := n) (cap := cb) Tryd.underlying23 (s := 10) (by kernel_rfl) .i64 j w hlt
      have hE : Hid _ := eqS s t
      have hji : (j : Int) < n := by omega
      have hlt' : Hid (j < n) := hlt
      have K2 : Hid ((snB s t && sameB (a.drop (j + 1)) (b.drop (j + 1))) = R) := by
        have := K.out.2
        rw [hds, hdt] at this
        exact this
      have R1 : Hid (w.rangeAt ga (oa + j * 10) (spC s).toList) := ca'
      have R2 : Hid (w.rangeAt gb (ob + j * 10) (spC t).toList) := cb'
      obtain ⟨q, hq'⟩ : ∃ q, snB s t = q := ⟨_, rfl⟩
      rw [hq'] at hE K2
      clear hs ht hds hdt ca' cb' hlt hq'
      go_wp2
      refine region_class_tail 8 (Below w.heap.size w) (by kernel_rfl) (by kernel_rfl) (U.out.trans (below_drew (Below.refl _ _))) ?_
      simp only [List.take_succ_cons, List.take_zero, List.drop_succ_cons, List.drop_zero]
      with_reducible refine quiet_one (.slice (some ⟨ga, oa, none⟩) n ca) ?_ ?_ ?_
      · kernel_rfl
      · intro u hy
        go_simp
      with_reducible refine quiet_one (.int .i64 (j : Int)) ?_ ?_ ?_
      · kernel_rfl
      · intro u hy
        go_simp
      with_reducible refine quiet_one (.pointer (some ⟨ga, oa + j * 10, none⟩)) ?_ ?_ ?_
      · kernel_rfl
      · intro u hy
        go_simp
      with_reducible refine quiet_one (.agg (spC s)) ?_ ?_ ?_
      · kernel_rfl
      · intro u hy
        generalize hA : Act.put _ _ _ = A
        have e1 : A.eval (.tmp 19) = .pointer (some ⟨ga, oa + j * 10, none⟩) := by rw [← hA]; go_simp
        clear hA
        exact q_loadm (C := Below w.heap.size w) rtS ga (oa + j * 10) (spC s) (fun _ h => range_keep R1.out h) rfl (.tmp 19) rfl e1 u hy
      with_reducible refine quiet_one (.slice (some ⟨gb, ob, none⟩) n cb) ?_ ?_ ?_
      · kernel_rfl
      · intro u hy
        go_simp
      with_reducible refine quiet_one (.int .i64 (j : Int)) ?_ ?_ ?_
      · kernel_rfl
      · intro u hy
        go_simp
      with_reducible refine quiet_one (.pointer (some ⟨gb, ob + j * 10, none⟩)) ?_ ?_ ?_
      · kernel_rfl
      · intro u hy
        go_simp
      with_reducible refine quiet_one (.agg (spC t)) ?_ ?_ ?_
      · kernel_rfl
      · intro u hy
        generalize hA : Act.put _ _ _ = A
        have e1 : A.eval (.tmp 23) = .pointer (some ⟨gb, ob + j * 10, none⟩) := by rw [← hA]; go_simp
        clear hA
        exact q_loadm (C := Below w.heap.size w) rtS gb (ob + j * 10) (spC t) (fun _ h => range_keep R2.out h) rfl (.tmp 23) rfl e1 u hy
      refine wpQuiet_nil ?_
      intro z0 U0
      replace U0 : Hid _ := U0
      go_simp
      cases q
      · go_wp2_with ((with_reducible refine at_ne hE.out (.tmp 20) (.tmp 24) 34 ?_ ?_ ?_ ?_ ?_); kernel_rfl; rfl; rfl; rfl)
        go_ret
        exact ⟨by have := K2.out; simp at this; rw [← this]; rfl, U0.out⟩
      · go_wp2_with ((with_reducible refine at_ne hE.out (.tmp 20) (.tmp 24) 34 ?_ ?_ ?_ ?_ ?_); kernel_rfl; rfl; rfl; rfl)
        go_roundw
        case rel => exact ⟨j + 1, _, rfl, by simp, ⟨by have := hlt'.out; omega, by have := K2.out; simpa using this⟩, U0⟩
        case measure => have := hlt'.out; simp [intOf]; omega
    · have hje : j = n := by have := K.out.1; omega
      subst hje
      have fin : Hid (R = true) := by
        have := K.out.2
        rw [List.drop_eq_nil_of_le (by rw [hn'.out.1]; exact Nat.le_refl _), List.drop_eq_nil_of_le (by rw [hn'.out.2]; exact Nat.le_refl _)] at this
        exact this.symm
      clear hlt
      go_wp2
      go_ret
      exact ⟨by rw [fin.out]; rfl, U.out⟩
def modeS (a : At) : Int := if a.Cl && a.Wa then 3 else if a.Cl then 2 else if a.Wa then 1 else 0
theorem rmode_any (w : World) (s : Sn) : Calls Tryd.prog 17 #[.agg (spC s)] w fun e w' => e = .returned (.int .u8 (modeS s.a)) ∧ Below w.heap.size w w' := by
  have hF : Hid (Fm w [(w.heap.size, spC s, 34)] (w.alloc (.cells (spC s) 34))) := Fm.one w _ _
  unfold modeS
  obtain ⟨c, hc⟩ : ∃ c, s.a.Cl = c := ⟨_, rfl⟩
  obtain ⟨d, hd⟩ : ∃ c, s.a.Wa = c := ⟨_, rfl⟩
  rw [hc, hd]
  replace hc : Hid _ := hc
  replace hd : Hid _ := hd
  cases c <;> cases d
  all_goals
    go_enter Tryd.func17, Tryd.ntmps17
    go_wp2_with ((with_reducible refine gen_world (w.alloc (.cells (spC s) 34)) (Fm w [(w.heap.size, spC s, 34)]) hF.out ?_); intro y K; have d7 := (K.out.bx 0 _ _ _ rfl).c 7 _ (spC_Cl s); rw [hc.out] at d7; have d8 := (K.out.bx 0 _ _ _ rfl).c 8 _ (spC_Wa s); rw [hd.out] at d8)
    go_ret
    exact ⟨by first | rfl | simp, K.out.low⟩
theorem ralike_any (w : World) (s t : Sn) : Calls Tryd.prog 36 #[.agg (spC s), .agg (spC t)] w fun e w' => e = .returned (.bool (atB s.a t.a)) ∧ Below w.heap.size w w' := by
  have hF : Hid (Fm w [(w.heap.size, spC s, 34), (w.heap.size + 1, spC t, 34)] ((w.alloc (.cells (spC s) 34)).alloc (.cells (spC t) 34))) := Fm.two w _ _ _ _
  have hE := eqS ⟨0, s.a⟩ ⟨0, t.a⟩
  rw [show snB ⟨0, s.a⟩ ⟨0, t.a⟩ = atB s.a t.a by simp [snB]] at hE
  replace hE : Hid _ := hE
  obtain ⟨b, hb⟩ : ∃ b, atB s.a t.a = b := ⟨_, rfl⟩
  rw [hb] at hE ⊢
  obtain ⟨S0, hS0⟩ : ∃ x, (⟨0, s.a⟩ : Sn) = x := ⟨_, rfl⟩
  obtain ⟨T0, hT0⟩ : ∃ x, (⟨0, t.a⟩ : Sn) = x := ⟨_, rfl⟩
  rw [hS0, hT0] at hE
  have e1 : Hid ((spC s).setIfInBounds 0 (.int .i64 0) = spC S0) := by show _ = _; rw [← hS0]; rfl
  have e2 : Hid ((spC t).setIfInBounds 0 (.int .i64 0) = spC T0) := by show _ = _; rw [← hT0]; rfl
  clear hb hS0 hT0
  go_enter Tryd.func36, Tryd.ntmps36
  go_wp2_with (first
    | ((with_reducible refine gen_world ((w.alloc (.cells (spC s) 34)).alloc (.cells (spC t) 34)) (Fm w [(w.heap.size, spC s, 34), (w.heap.size + 1, spC t, 34)]) hF.out ?_); intro y K; have d0 := (K.out.bx 0 _ _ _ rfl).c 0 _ (spC_c s); have z0 := (K.out.bx 0 _ _ _ rfl).fz 0)
    | ((with_reducible refine gen_world (y.setCell ⟨w.heap.size, 0, none⟩ (.int .i64 0)) (Fm w [(w.heap.size, spC S0, 34), (w.heap.size + 1, spC t, 34)]) ?_ ?_); exact K.out.setCell 0 _ _ _ _ rfl 0 _ e1.out; intro y1 K1; have d1 := (K1.out.bx 1 _ _ _ rfl).c 0 _ (spC_c t); have z1 := (K1.out.bx 1 _ _ _ rfl).fz 0)
    | ((with_reducible refine gen_world (y1.setCell ⟨w.heap.size + 1, 0, none⟩ (.int .i64 0)) (Fm w [(w.heap.size, spC S0, 34), (w.heap.size + 1, spC T0, 34)]) ?_ ?_); exact K1.out.setCell 1 _ _ _ _ rfl 0 _ e2.out; intro y2 K2)
    | ((with_reducible refine at_load rtS w.heap.size (spC S0) ?_ ?_ (.tmp 2) ?_ ?_ ?_ ?_); exact K2.out.bx 0 _ _ _ rfl; rfl; kernel_rfl; rfl; rfl)
    | ((with_reducible refine at_load rtS (w.heap.size + 1) (spC T0) ?_ ?_ (.tmp 3) ?_ ?_ ?_ ?_); exact K2.out.bx 1 _ _ _ rfl; rfl; kernel_rfl; rfl; rfl)
    | ((with_reducible refine at_eq hE.out (.tmp 7) (.tmp 8) 34 ?_ ?_ ?_ ?_ ?_); kernel_rfl; rfl; rfl; rfl))
  go_ret
  exact ⟨by first | rfl | simp, K2.out.low⟩
end Go.Proofs.YthpahpfnpapoiaaDoor
