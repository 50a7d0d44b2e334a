/- What gives up, and which records may be: the program's. -/
import Derived.Test.YtoajmicdphffnabDoorKe
import Derived.WalkSmall
namespace Go.Proofs.YtoajmicdphffnabDoor
open Go Go.RowKit
set_option linter.unusedVariables false
set_option maxHeartbeats 1000000
set_option maxRecDepth 20000

def pv : Value := .iface 9 (.string ⟨#[116, 104, 105, 115, 32, 105, 115, 32, 110, 111, 32, 114, 101, 99, 111, 114, 100]⟩)
theorem need_ok (w : World) : Calls Tryd.prog 23 #[.bool true] w fun e w' => e = .returned (.tuple #[]) ∧ w' = w := by
  go_enter Tryd.func23, Tryd.ntmps23
  go_wp2
  go_end0
  exact ⟨rfl, rfl⟩
theorem need_no (w : World) : Calls Tryd.prog 23 #[.bool false] w fun e w' => e = .panicked [{ v := pv, recovered := false }] ∧ w' = w := by
  go_enter Tryd.func23, Tryd.ntmps23
  go_wp2
  exact ⟨rfl, rfl, rfl⟩
theorem may_any (w : World) (r : Rc) : Calls Tryd.prog 30 #[.agg (rcC r)] w fun e w' => e = .returned (.bool (mayR r)) ∧ Below w.heap.size w w' := by
  have hF : Hid (Fm w [(w.heap.size, rcC r, 45)] (w.alloc (.cells (rcC r) 45))) := Fm.one w _ _
  unfold mayR
  obtain ⟨co, hco⟩ : ∃ x, r.co = x := ⟨_, rfl⟩
  obtain ⟨po, hpo⟩ : ∃ x, r.po = x := ⟨_, rfl⟩
  obtain ⟨mo, hmo⟩ : ∃ x, r.mo = x := ⟨_, rfl⟩
  obtain ⟨re, hre⟩ : ∃ x, r.re = x := ⟨_, rfl⟩
  obtain ⟨wr, hwr⟩ : ∃ x, r.wr = x := ⟨_, rfl⟩
  rw [hco, hpo, hmo, hre, hwr]
  obtain ⟨b1, q1⟩ : ∃ b, decide (co ≤ 3) = b := ⟨_, rfl⟩
  obtain ⟨b2, q2⟩ : ∃ b, decide (po ≤ 7) = b := ⟨_, rfl⟩
  obtain ⟨b3, q3⟩ : ∃ b, decide (mo ≤ 3) = b := ⟨_, rfl⟩
  rw [q1, q2, q3]
  replace hco : Hid _ := hco
  replace hpo : Hid _ := hpo
  replace hmo : Hid _ := hmo
  replace hre : Hid _ := hre
  replace hwr : Hid _ := hwr
  cases b1 <;> cases b2 <;> cases b3 <;> cases re <;> cases wr
  all_goals
    go_enter Tryd.func30, Tryd.ntmps30
    go_wp2_with ((with_reducible refine gen_world (w.alloc (.cells (rcC r) 45)) (Fm w [(w.heap.size, rcC r, 45)]) hF.out ?_); intro y K; have d0 := (K.out.bx 0 _ _ _ rfl).c 0 _ (rcC_co r); rw [hco.out] at d0; have d3 := (K.out.bx 0 _ _ _ rfl).c 3 _ (rcC_re r); rw [hre.out] at d3; have d4 := (K.out.bx 0 _ _ _ rfl).c 4 _ (rcC_wr r); rw [hwr.out] at d4; have d5 := (K.out.bx 0 _ _ _ rfl).c 5 _ (rcC_po r); rw [hpo.out] at d5; have d7 := (K.out.bx 0 _ _ _ rfl).c 7 _ (rcC_mo r); rw [hmo.out] at d7)
    go_ret
    exact ⟨by first | rfl | simp, K.out.low⟩
theorem all_ok (w : World) (sp : Option Addr) (cap : Nat) (l : List Rc) (hl : Hid (LiesR w sp l)) (hn : l.length ≤ 4194304) (hm : Hid (allM l = true)) :
    Calls Tryd.prog 12 #[.slice sp l.length cap] w fun e w' => e = .returned (.tuple #[]) ∧ Below w.heap.size w w' := by
  obtain ⟨n, hn'⟩ : ∃ n, l.length = n := ⟨_, rfl⟩
  have ni : (n : Int) ≤ 4194304 := by omega
  rw [hn']
  have hl' : Hid (l.length = n) := hn'
  have zz := zeroV_R
  clear hn hn'
  go_enter Tryd.func12, Tryd.ntmps12
  go_wp2
  go_loopw [6] (fun i wz => ∃ (j : Nat) (y : World), y = wz ∧ i = .int .i64 (j : Int) ∧ Hid (j ≤ n ∧ allM (l.drop j) = true) ∧ Hid (Below w.heap.size w y)) (fun i _ => (n - intOf i).toNat)
  case atStart => exact ⟨0, w, rfl, rfl, ⟨Nat.zero_le _, hm.out⟩, Below.refl _ _⟩
  case round =>
    obtain ⟨j, y, rfl, rfl, J, K⟩ := hrel
    by_cases hlt : j < n
    · obtain ⟨s, hs, hdrop⟩ := at_list hl'.out hlt
      obtain ⟨gb, ob, rfl, hc⟩ := hl.out j s hs
      have hc : Hid (y.rangeAt gb (ob + j * 8) (rcC s).toList) := range_keep hc K.out
      have ij := fun v => idxP (g := gb) (off := ob) (len := n) (cap := cap) Tryd.underlying22 (s := 8) (by kernel_rfl) .i64 j v hlt
      have hji : (j : Int) < n := by omega
      have hlt' : Hid (j < n) := hlt
      have hM := fun v => may_any v s
      have J2 : Hid ((mayR s && allM (l.drop (j + 1))) = true) := by
        have h := J.out.2
        rw [hdrop] at h
        exact h
      obtain ⟨b, hb⟩ : ∃ b, mayR s = b := ⟨_, rfl⟩
      simp only [hb] at hM
      rw [hb] at J2
      replace hs : Hid _ := hs
      replace hdrop : Hid _ := hdrop
      clear hlt hb
      have J3 : Hid (b = true ∧ allM (l.drop (j + 1)) = true) := by have := J2.out; show _ ∧ _; simpa using this
      obtain ⟨rfl, J4⟩ := J3.out
      replace J4 : Hid _ := J4
      clear J3
      go_wp2_with (first
          | ((with_reducible refine at_loadm rtR gb (ob + j * 8) (rcC s) ?_ ?_ (.tmp 8) ?_ ?_ ?_ ?_); exact hc.out; rfl; kernel_rfl; rfl; rfl)
          | ((with_reducible refine gen_world (y.alloc (.cells (rcC zR) 45)) (Fm y [(y.heap.size, rcC zR, 45)]) ?_ ?_); exact Fm.one y _ _; intro y1 K1)
          | ((with_reducible refine at_st rtR y.heap.size (rcC zR) (rcC s) ?_ ?_ ?_ ?_ (.tmp 3) (.tmp 9) ?_ ?_ ?_ ?_ ?_); exact K1.out.bx 0 _ _ _ rfl; rfl; rfl; exact rcC_one _; rfl; rfl; rfl; rfl; intro y2 hw2; have K2 : Hid (Fm y [(y.heap.size, rcC s, 45)] y2) := K1.out.put 0 _ _ _ _ rfl hw2.out)
          | ((with_reducible refine at_load rtR y.heap.size (rcC s) ?_ ?_ (.tmp 3) ?_ ?_ ?_ ?_); exact K2.out.bx 0 _ _ _ rfl; rfl; kernel_rfl; rfl; rfl)
          | (go_at_call 30; refine (hM y2).mono ?_; rintro e y3 ⟨rfl, h3⟩; have U3 : Hid (Below w.heap.size w y3) := K.out.trans ((K2.out.low.trans (h3.mono K2.out.low.size)).mono K.out.size); clear h3)
          | (go_at_call 23; refine (need_ok y3).mono ?_; rintro e y4 ⟨rfl, rfl⟩))
      go_roundw
      case rel => exact ⟨j + 1, _, rfl, by simp, ⟨by have := hlt'.out; omega, J4.out⟩, U3⟩
      case measure => have := hlt'.out; simp [intOf]; omega
    · have hje : j = n := by have := J.out.1; omega
      clear hlt
      subst hje
      go_wp2
      go_end0
      exact ⟨rfl, K.out⟩
theorem all_no (w : World) (sp : Option Addr) (cap : Nat) (l : List Rc) (hl : Hid (LiesR w sp l)) (hn : l.length ≤ 4194304) (hm : Hid (allM l = false)) :
    Calls Tryd.prog 12 #[.slice sp l.length cap] w fun e w' => e = .panicked [{ v := pv, recovered := false }] ∧ Below w.heap.size w w' := by
  obtain ⟨n, hn'⟩ : ∃ n, l.length = n := ⟨_, rfl⟩
  have ni : (n : Int) ≤ 4194304 := by omega
  rw [hn']
  have hl' : Hid (l.length = n) := hn'
  have zz := zeroV_R
  clear hn hn'
  go_enter Tryd.func12, Tryd.ntmps12
  go_wp2
  go_loopw [6] (fun i wz => ∃ (j : Nat) (y : World), y = wz ∧ i = .int .i64 (j : Int) ∧ Hid (j ≤ n ∧ allM (l.drop j) = false) ∧ Hid (Below w.heap.size w y)) (fun i _ => (n - intOf i).toNat)
  case atStart => exact ⟨0, w, rfl, rfl, ⟨Nat.zero_le _, hm.out⟩, Below.refl _ _⟩
  case round =>
    obtain ⟨j, y, rfl, rfl, J, K⟩ := hrel
    by_cases hlt : j < n
    · obtain ⟨s, hs, hdrop⟩ := at_list hl'.out hlt
      obtain ⟨gb, ob, rfl, hc⟩ := hl.out j s hs
      have hc : Hid (y.rangeAt gb (ob + j * 8) (rcC s).toList) := range_keep hc K.out
      have ij := fun v => idxP (g := gb) (off := ob) (len := n) (cap := cap) Tryd.underlying22 (s := 8) (by kernel_rfl) .i64 j v hlt
      have hji : (j : Int) < n := by omega
      have hlt' : Hid (j < n) := hlt
      have hM := fun v => may_any v s
      have J2 : Hid ((mayR s && allM (l.drop (j + 1))) = false) := by
        have h := J.out.2
        rw [hdrop] at h
        exact h
      obtain ⟨b, hb⟩ : ∃ b, mayR s = b := ⟨_, rfl⟩
      simp only [hb] at hM
      rw [hb] at J2
      replace hs : Hid _ := hs
      replace hdrop : Hid _ := hdrop
      clear hlt hb
      cases b
      · go_wp2_with (first
          | ((with_reducible refine at_loadm rtR gb (ob + j * 8) (rcC s) ?_ ?_ (.tmp 8) ?_ ?_ ?_ ?_); exact hc.out; rfl; kernel_rfl; rfl; rfl)
          | ((with_reducible refine gen_world (y.alloc (.cells (rcC zR) 45)) (Fm y [(y.heap.size, rcC zR, 45)]) ?_ ?_); exact Fm.one y _ _; intro y1 K1)
          | ((with_reducible refine at_st rtR y.heap.size (rcC zR) (rcC s) ?_ ?_ ?_ ?_ (.tmp 3) (.tmp 9) ?_ ?_ ?_ ?_ ?_); exact K1.out.bx 0 _ _ _ rfl; rfl; rfl; exact rcC_one _; rfl; rfl; rfl; rfl; intro y2 hw2; have K2 : Hid (Fm y [(y.heap.size, rcC s, 45)] y2) := K1.out.put 0 _ _ _ _ rfl hw2.out)
          | ((with_reducible refine at_load rtR y.heap.size (rcC s) ?_ ?_ (.tmp 3) ?_ ?_ ?_ ?_); exact K2.out.bx 0 _ _ _ rfl; rfl; kernel_rfl; rfl; rfl)
          | (go_at_call 30; refine (hM y2).mono ?_; rintro e y3 ⟨rfl, h3⟩; have U3 : Hid (Below w.heap.size w y3) := K.out.trans ((K2.out.low.trans (h3.mono K2.out.low.size)).mono K.out.size); clear h3)
          | (go_at_call 23; refine (need_no y3).mono ?_; rintro e y4 ⟨rfl, rfl⟩))
        exact ⟨rfl, rfl, U3.out⟩
      · have J4 : Hid (allM (l.drop (j + 1)) = false) := by have := J2.out; show _ = _; simpa using this
        go_wp2_with (first
          | ((with_reducible refine at_loadm rtR gb (ob + j * 8) (rcC s) ?_ ?_ (.tmp 8) ?_ ?_ ?_ ?_); exact hc.out; rfl; kernel_rfl; rfl; rfl)
          | ((with_reducible refine gen_world (y.alloc (.cells (rcC zR) 45)) (Fm y [(y.heap.size, rcC zR, 45)]) ?_ ?_); exact Fm.one y _ _; intro y1 K1)
          | ((with_reducible refine at_st rtR y.heap.size (rcC zR) (rcC s) ?_ ?_ ?_ ?_ (.tmp 3) (.tmp 9) ?_ ?_ ?_ ?_ ?_); exact K1.out.bx 0 _ _ _ rfl; rfl; rfl; exact rcC_one _; rfl; rfl; rfl; rfl; intro y2 hw2; have K2 : Hid (Fm y [(y.heap.size, rcC s, 45)] y2) := K1.out.put 0 _ _ _ _ rfl hw2.out)
          | ((with_reducible refine at_load rtR y.heap.size (rcC s) ?_ ?_ (.tmp 3) ?_ ?_ ?_ ?_); exact K2.out.bx 0 _ _ _ rfl; rfl; kernel_rfl; rfl; rfl)
          | (go_at_call 30; refine (hM y2).mono ?_; rintro e y3 ⟨rfl, h3⟩; have U3 : Hid (Below w.heap.size w y3) := K.out.trans ((K2.out.low.trans (h3.mono K2.out.low.size)).mono K.out.size); clear h3)
          | (go_at_call 23; refine (need_ok y3).mono ?_; rintro e y4 ⟨rfl, rfl⟩))
        go_roundw
        case rel => exact ⟨j + 1, _, rfl, by simp, ⟨by have := hlt'.out; omega, J4.out⟩, U3⟩
        case measure => have := hlt'.out; simp [intOf]; omega
    · have hje : j = n := by have := J.out.1; omega
      exfalso
      have h1 := J.out.2
      rw [List.drop_eq_nil_of_le (by rw [hl'.out]; omega)] at h1
      simp [allM] at h1
end Go.Proofs.YtoajmicdphffnabDoor
