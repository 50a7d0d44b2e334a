/- Two lists of waves held against each other by the document. -/
import Derived.Test.YtdfjfacilbahkaaDoorUf
import Derived.StillTail
namespace Go.Proofs.YtdfjfacilbahkaaDoor
open Go Go.RowKit
set_option linter.unusedVariables false
set_option maxHeartbeats 1000000
set_option maxRecDepth 20000

theorem take_step {α : Type} {a b : List α} {j : Nat} {x y : α} (h : a.take j = b.take j) (hx : a[j]? = some x) (hy : b[j]? = some y) (e : x = y) : a.take (j + 1) = b.take (j + 1) := by rw [List.take_add_one, List.take_add_one, h, hx, hy, e]
theorem eqWa (p q : Int × Int) : Eqs Tryd.prog 49 (c2 p).toArray (c2 q).toArray (p == q) := ⟨by kernel_rfl, fun w => by
  obtain ⟨a, b⟩ := p
  obtain ⟨x, y⟩ := q
  unfold c2
  go_simp
  (repeat' split) <;> simp_all⟩
theorem sameW_any (w : World) (pa pb : Option Addr) (ca cb : Nat) (la lb : List (Int × Int)) (ha : Hid (L2 w pa la)) (hb : Hid (L2 w pb lb)) (hna : la.length ≤ 4294967296) (hnb : lb.length ≤ 4294967296) :
    Calls Tryd.prog 22 #[.slice pa la.length ca, .slice pb lb.length cb] w fun e w' => e = .returned (.bool (decide (la = lb))) ∧ Below w.heap.size w w' := by
  obtain ⟨n, hn⟩ : ∃ n, la.length = n := ⟨_, rfl⟩
  obtain ⟨m, hm⟩ : ∃ m, lb.length = m := ⟨_, rfl⟩
  have ni : (n : Int) ≤ 4294967296 := by omega
  have mi : (m : Int) ≤ 4294967296 := by omega
  obtain ⟨R, hR⟩ : ∃ R, decide (la = lb) = R := ⟨_, rfl⟩
  rw [hn, hm, hR]
  replace hR : Hid _ := hR
  have hnn : Hid (la.length = n ∧ lb.length = m) := ⟨hn, hm⟩
  by_cases hnm : n = m
  · subst hnm
    clear hna hnb hn hm mi
    go_enter Tryd.func22, Tryd.ntmps22
    go_wp2
    go_loopw [5] (fun i wz => ∃ (j : Nat) (y : World), y = wz ∧ i = .int .i64 (j : Int) ∧ Hid (j ≤ n ∧ la.take j = lb.take j) ∧ Hid (Below w.heap.size w y)) (fun i _ => (n - intOf i).toNat)
    case atStart => exact ⟨0, w, rfl, rfl, ⟨Nat.zero_le _, by simp⟩, Below.refl _ _⟩
    case round =>
      obtain ⟨j, z, rfl, rfl, J, U⟩ := hrel
      by_cases hlt : j < n
      · obtain ⟨x, hx, _⟩ := row_at hnn.out.1 hlt
        obtain ⟨y, hy, _⟩ := row_at hnn.out.2 hlt
        obtain ⟨ga, oa, rfl, ra, _, _⟩ := l2_at ha.out j x hx
        obtain ⟨gb, ob, rfl, rb, _, _⟩ := l2_at hb.out j y hy
        have R1 : Hid (w.rangeAt ga (oa + j * 2) (c2 x).toArray.toList) := ra
        have R2 : Hid (w.rangeAt gb (ob + j * 2) (c2 y).toArray.toList) := rb
        have hE : Hid _ := eqWa x y
        clear ra rb
        have i1 := fun w => idxP (g := ga) (off := oa) (len := n) (cap := ca) Tryd.underlying24 (s := 2) (by kernel_rfl) .i64 j w hlt
        have i2 := fun w => idxP (g := gb) (off := ob) (len := n) (cap := cb) Tryd.underlying24 (s := 2) (by kernel_rfl) .i64 j w hlt
        have hji : (j : Int) < n := by omega
        have hlt' : Hid (j < n) := hlt
        have hxy : Hid (la[j]? = some x ∧ lb[j]? = some y) := ⟨hx, hy⟩
        obtain ⟨q, hq⟩ : ∃ q, (x == y) = q := ⟨_, rfl⟩
        rw [hq] at hE
        replace hq : Hid _ := hq
        clear hlt hx hy
        go_wp2
        refine region_class_tail 8 (Below w.heap.size w) (by kernel_rfl) (by kernel_rfl) (U.out.trans (below_drew (Below.refl _ _))) ?_
        simp only [List.take_succ_cons, List.take_zero, List.drop_succ_cons, List.drop_zero]
        with_reducible refine quiet_one (.slice (some ⟨ga, oa, none⟩) n ca) ?_ ?_ ?_
        · kernel_rfl
        · intro u hy
          go_simp
        with_reducible refine quiet_one (.int .i64 (j : Int)) ?_ ?_ ?_
        · kernel_rfl
        · intro u hy
          go_simp
        with_reducible refine quiet_one (.pointer (some ⟨ga, oa + j * 2, none⟩)) ?_ ?_ ?_
        · kernel_rfl
        · intro u hy
          go_simp
        with_reducible refine quiet_one (.agg (c2 x).toArray) ?_ ?_ ?_
        · kernel_rfl
        · intro u hy
          generalize hA : Act.put _ _ _ = A
          have e1 : A.eval (.tmp 19) = .pointer (some ⟨ga, oa + j * 2, none⟩) := by rw [← hA]; go_simp
          clear hA
          exact q_loadm (C := Below w.heap.size w) rtWa ga (oa + j * 2) (c2 x).toArray (fun _ h => range_keep R1.out h) rfl (.tmp 19) rfl e1 u hy

        with_reducible refine quiet_one (.slice (some ⟨gb, ob, none⟩) n cb) ?_ ?_ ?_
        · kernel_rfl
        · intro u hy
          go_simp
        with_reducible refine quiet_one (.int .i64 (j : Int)) ?_ ?_ ?_
        · kernel_rfl
        · intro u hy
          go_simp
        with_reducible refine quiet_one (.pointer (some ⟨gb, ob + j * 2, none⟩)) ?_ ?_ ?_
        · kernel_rfl
        · intro u hy
          go_simp
        with_reducible refine quiet_one (.agg (c2 y).toArray) ?_ ?_ ?_
        · kernel_rfl
        · intro u hy
          generalize hA : Act.put _ _ _ = A
          have e1 : A.eval (.tmp 23) = .pointer (some ⟨gb, ob + j * 2, none⟩) := by rw [← hA]; go_simp
          clear hA
          exact q_loadm (C := Below w.heap.size w) rtWa gb (ob + j * 2) (c2 y).toArray (fun _ h => range_keep R2.out h) rfl (.tmp 23) rfl e1 u hy

        refine wpQuiet_nil ?_
        intro z0 U0
        replace U0 : Hid _ := U0
        go_simp
        cases q
        · have fin : Hid (R = false) := by
            show _ = _
            rw [← hR.out, decide_eq_false_iff_not]
            intro e
            have h1 := hxy.out
            rw [e, h1.2] at h1
            have h2 := Option.some.inj h1.1
            have h3 := hq.out
            rw [h2] at h3
            simp at h3
          go_wp2_with ((with_reducible refine at_ne hE.out (.tmp 20) (.tmp 24) 49 ?_ ?_ ?_ ?_ ?_); kernel_rfl; rfl; rfl; rfl)
          go_ret
          exact ⟨by rw [fin.out]; rfl, U0.out⟩
        · have hs : Hid (la.take (j + 1) = lb.take (j + 1)) := take_step J.out.2 hxy.out.1 hxy.out.2 (by have := hq.out; simpa using this)
          go_wp2_with ((with_reducible refine at_ne hE.out (.tmp 20) (.tmp 24) 49 ?_ ?_ ?_ ?_ ?_); kernel_rfl; rfl; rfl; rfl)
          go_roundw
          case rel => exact ⟨j + 1, _, rfl, by simp, ⟨hlt'.out, hs.out⟩, U0⟩
          case measure => have := hlt'.out; simp [intOf]; omega
      · have hje : j = n := by have := J.out.1; omega
        subst hje
        have fin : Hid (R = true) := by
          show _ = _
          rw [← hR.out, decide_eq_true_eq]
          have h := J.out.2
          rwa [List.take_of_length_le (by have := hnn.out.1; omega), List.take_of_length_le (by have := hnn.out.2; omega)] at h
        clear hlt
        go_wp2
        go_ret
        exact ⟨by rw [fin.out]; rfl, U.out⟩
  · have q : ((n : Int) == m) = false := by simp; omega
    have fin : Hid (R = false) := by
      show _ = _
      rw [← hR.out, decide_eq_false_iff_not]
      intro e
      apply hnm
      rw [← hn, ← hm, e]
    clear hnm hn hm hna hnb
    go_enter Tryd.func22, Tryd.ntmps22
    go_wp2
    go_ret
    exact ⟨by rw [fin.out]; rfl, Below.refl _ _⟩
end Go.Proofs.YtdfjfacilbahkaaDoor
