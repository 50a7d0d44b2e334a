/- Two scripts held against each other, the mode of a span, whether two are alike, by the document. -/
import Derived.Test.YtdfjfacilbahkaaDoorXe
namespace Go.Proofs.YtdfjfacilbahkaaDoor
open Go Go.RowKit
set_option linter.unusedVariables false
set_option maxHeartbeats 400000
set_option maxRecDepth 20000

def snB (x y : Sn) : Bool := x.c == y.c && atB x.a y.a
theorem snB_iff (x y : Sn) : snB x y = true ↔ x = y := by
  unfold snB
  rw [Bool.and_eq_true, atB_iff]
  cases x
  cases y
  simp
theorem eqS (x y : Sn) : Eqs Tryd.prog 37 (spC x) (spC y) (snB x y) := ⟨by kernel_rfl, fun w => by
  unfold spC
  go_simp
  unfold snB atB
  (repeat' split) <;> simp_all⟩
def sameB : List Sn → List Sn → Bool
  | [], [] => true
  | x :: a, y :: b => snB x y && sameB a b
  | _, _ => false
theorem sameB_iff (a : List Sn) : ∀ b, sameB a b = true ↔ a = b := by
  induction a with
  | nil => intro b; cases b <;> simp [sameB]
  | cons x a ih => intro b; cases b <;> simp [sameB, ih, snB_iff]
theorem sameB_len (a : List Sn) : ∀ b, a.length ≠ b.length → sameB a b = false := by
  intro b h
  cases hs : sameB a b
  · rfl
  · exact absurd (congrArg List.length ((sameB_iff a b).1 hs)) h
theorem rsame_any (w : World) (pa pb : Option Addr) (ca cb : Nat) (a b : List Sn) (ha : Hid (LiesS w pa a)) (hb : Hid (LiesS w pb b)) (hna : a.length ≤ 9223372036854775807) (hnb : b.length ≤ 9223372036854775807) :
    Calls Tryd.prog 19 #[.slice pa a.length ca, .slice pb b.length cb] w fun e w' => e = .returned (.bool (sameB a b)) ∧ Below w.heap.size w w' := by
  by_cases hne : a.length ≠ b.length
  · rw [sameB_len a b hne]
    obtain ⟨n, hn⟩ : ∃ n, a.length = n := ⟨_, rfl⟩
    obtain ⟨m, hm⟩ : ∃ m, b.length = m := ⟨_, rfl⟩
    rw [hn, hm] at hne ⊢
    have q : ((n : Int) != (m : Int)) = true := by simp; omega
    have n1 : (n : Int) ≤ 9223372036854775807 := by omega
    have n2 : (m : Int) ≤ 9223372036854775807 := by omega
    clear hn hm hne hna hnb
    go_enter Tryd.func19, Tryd.ntmps19
    go_wp2
    go_ret
    exact ⟨rfl, Below.refl _ _⟩
  replace hne : a.length = b.length := by omega
  obtain ⟨n, hn⟩ : ∃ n, a.length = n := ⟨_, rfl⟩
  rw [← hne, hn]
  have hn' : Hid (a.length = n ∧ b.length = n) := ⟨hn, by omega⟩
  have n1 : (n : Int) ≤ 9223372036854775807 := by omega
  have hq : ((n : Int) != n) = false := by simp
  obtain ⟨R, hR⟩ : ∃ R, sameB a b = R := ⟨_, rfl⟩
  rw [hR]
  replace hR : Hid _ := hR
  clear hna hnb hne hn
  go_enter Tryd.func19, Tryd.ntmps19
  go_wp2
  go_loopw [5] (fun i wz => ∃ (j : Nat) (x : World), x = wz ∧ i = .int .i64 (j : Int) ∧ Hid (j ≤ n ∧ sameB (a.drop j) (b.drop j) = R) ∧ Hid (Below w.heap.size w x)) (fun i _ => (n - intOf i).toNat)
  case atStart => exact ⟨0, w, rfl, rfl, ⟨by omega, hR.out⟩, Below.refl _ _⟩
  case round =>
    obtain ⟨j, x, rfl, rfl, K, U⟩ := hrel
    by_cases hlt : j < n
    · obtain ⟨s, hs, hds⟩ := at_list hn'.out.1 hlt
      obtain ⟨t, ht, hdt⟩ := at_list hn'.out.2 hlt
      obtain ⟨ga, oa, rfl, ca'⟩ := ha.out j s hs
      obtain ⟨gb, ob, rfl, cb'⟩ := hb.out j t ht
      have i1 := fun w => idxP (g := ga) (off := oa) (len := n) (cap := ca) Tryd.underlying38 (s := 10) (by kernel_rfl) .i64 j w hlt
      have i2 := fun w => idxP (g := gb) (off := ob) (len := n) (cap := cb) Tryd.underlying38 (s := 10) (by kernel_rfl) .i64 j w hlt
      have hE : Hid _ := eqS s t
      have hji : (j : Int) < n := by omega
      have hlt' : Hid (j < n) := hlt
      have K2 : Hid ((snB s t && sameB (a.drop (j + 1)) (b.drop (j + 1))) = R) := by
        have := K.out.2
        rw [hds, hdt] at this
        exact this
      have R1 : Hid (w.rangeAt ga (oa + j * 10) (spC s).toList) := ca'
      have R2 : Hid (w.rangeAt gb (ob + j * 10) (spC t).toList) := cb'
      obtain ⟨q, hq'⟩ : ∃ q, snB s t = q := ⟨_, rfl⟩
      rw [hq'] at hE K2
      clear hs ht hds hdt ca' cb' hlt hq'
      go_wp2
      refine region_class_tail 8 (Below w.heap.size w) (by kernel_rfl) (by kernel_rfl) (U.out.trans (below_drew (Below.refl _ _))) ?_
      simp only [List.take_succ_cons, List.take_zero, List.drop_succ_cons, List.drop_zero]
      with_reducible refine quiet_one (.slice (some ⟨ga, oa, none⟩) n ca) ?_ ?_ ?_
      · kernel_rfl
      · intro u hy
        go_simp
      with_reducible refine quiet_one (.int .i64 (j : Int)) ?_ ?_ ?_
      · kernel_rfl
      · intro u hy
        go_simp
      with_reducible refine quiet_one (.pointer (some ⟨ga, oa + j * 10, none⟩)) ?_ ?_ ?_
      · kernel_rfl
      · intro u hy
        go_simp
      with_reducible refine quiet_one (.agg (spC s)) ?_ ?_ ?_
      · kernel_rfl
      · intro u hy
        generalize hA : Act.put _ _ _ = A
        have e1 : A.eval (.tmp 19) = .pointer (some ⟨ga, oa + j * 10, none⟩) := by rw [← hA]; go_simp
        clear hA
        exact q_loadm (C := Below w.heap.size w) rtS ga (oa + j * 10) (spC s) (fun _ h => range_keep R1.out h) rfl (.tmp 19) rfl e1 u hy
      with_reducible refine quiet_one (.slice (some ⟨gb, ob, none⟩) n cb) ?_ ?_ ?_
      · kernel_rfl
      · intro u hy
        go_simp
      with_reducible refine quiet_one (.int .i64 (j : Int)) ?_ ?_ ?_
      · kernel_rfl
      · intro u hy
        go_simp
      with_reducible refine quiet_one (.pointer (some ⟨gb, ob + j * 10, none⟩)) ?_ ?_ ?_
      · kernel_rfl
      · intro u hy
        go_simp
      with_reducible refine quiet_one (.agg (spC t)) ?_ ?_ ?_
      · kernel_rfl
      · intro u hy
        generalize hA : Act.put _ _ _ = A
        have e1 : A.eval (.tmp 23) = .pointer (some ⟨gb, ob + j * 10, none⟩) := by rw [← hA]; go_simp
        clear hA
        exact q_loadm (C := Below w.heap.size w) rtS gb (ob + j * 10) (spC t) (fun _ h => range_keep R2.out h) rfl (.tmp 23) rfl e1 u hy
      refine wpQuiet_nil ?_
      intro z0 U0
      replace U0 : Hid _ := U0
      go_simp
      cases q
      · go_wp2_with ((with_reducible refine at_ne hE.out (.tmp 20) (.tmp 24) 37 ?_ ?_ ?_ ?_ ?_); kernel_rfl; rfl; rfl; rfl)
        go_ret
        exact ⟨by have := K2.out; simp at this; rw [← this]; rfl, U0.out⟩
      · go_wp2_with ((with_reducible refine at_ne hE.out (.tmp 20) (.tmp 24) 37 ?_ ?_ ?_ ?_ ?_); kernel_rfl; rfl; rfl; rfl)
        go_roundw
        case rel => exact ⟨j + 1, _, rfl, by simp, ⟨by have := hlt'.out; omega, by have := K2.out; simpa using this⟩, U0⟩
        case measure => have := hlt'.out; simp [intOf]; omega
    · have hje : j = n := by have := K.out.1; omega
      subst hje
      have fin : Hid (R = true) := by
        have := K.out.2
        rw [List.drop_eq_nil_of_le (by rw [hn'.out.1]; exact Nat.le_refl _), List.drop_eq_nil_of_le (by rw [hn'.out.2]; exact Nat.le_refl _)] at this
        exact this.symm
      clear hlt
      go_wp2
      go_ret
      exact ⟨by rw [fin.out]; rfl, U.out⟩
def modeS (a : At) : Int := if a.Cl && a.Wa then 3 else if a.Cl then 2 else if a.Wa then 1 else 0
end Go.Proofs.YtdfjfacilbahkaaDoor
