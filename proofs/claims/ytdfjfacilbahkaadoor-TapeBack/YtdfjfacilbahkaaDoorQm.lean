/- Whether a script may be, how many cycles it has, whatever its length: the program's. -/
import Derived.Test.YtdfjfacilbahkaaDoorXh
namespace Go.Proofs.YtdfjfacilbahkaaDoor
open Go Go.RowKit
set_option linter.unusedVariables false
set_option maxHeartbeats 1000000
set_option maxRecDepth 20000

theorem cycles_any (w : World) (sp : Option Addr) (cap : Nat) (l : List Sn) (hl : Hid (LiesS w sp l)) (hn : l.length ≤ 9223372036854775807) :
    Calls Tryd.prog 42 #[.slice sp l.length cap] w fun e w' => e = .returned (.tuple #[.int .i64 (cyclesS l), .int .i64 (checkS l)]) ∧ Below w.heap.size w w' := by
  obtain ⟨n, hn'⟩ : ∃ n, l.length = n := ⟨_, rfl⟩
  have ni : (n : Int) ≤ 9223372036854775807 := by omega
  by_cases hbig : 4096 < n
  · have e : checkS l = 2 := by unfold checkS; rw [if_pos (by omega)]
    have e2 : cyclesS l = 0 := by unfold cyclesS; rw [if_neg (by rw [e]; decide)]
    rw [e, e2, hn']
    have q : decide ((4096 : Int) < n) = true := by simp; omega
    clear hbig hn hn' e e2
    go_enter Tryd.func42, Tryd.ntmps42
    go_wp2
    go_ret2
    exact ⟨rfl, Below.refl _ _⟩
  obtain ⟨R, hR⟩ : ∃ R, checkS l = R := ⟨_, rfl⟩
  obtain ⟨Y, hY⟩ : ∃ Y, cyclesS l = Y := ⟨_, rfl⟩
  have hR' : Hid (R = if inB l = true ∧ sumC l ≤ 4194304 then 0 else 70) := by
    show _ = _
    rw [← hR]
    unfold checkS
    rw [if_neg (by omega)]
  have hY' : Hid (Y = if R = 0 then sumC l else 0) := by
    show _ = _
    rw [← hY, ← hR]
    rfl
  have bad : Hid (¬ (inB l = true ∧ sumC l ≤ 4194304) → R = 70 ∧ Y = 0) := fun h => by
    have h1 := hR'.out
    rw [if_neg h] at h1
    have h2 := hY'.out
    rw [h1, if_neg (by decide)] at h2
    exact ⟨h1, h2⟩
  rw [hR, hY, hn']
  have q : decide ((4096 : Int) < n) = false := by simp; omega
  have hn4 : Hid (n ≤ 4096) := by show n ≤ 4096; omega
  have hl' : Hid (l.length = n) := hn'
  have ni4 : (n : Int) ≤ 4096 := by omega
  have zz := zeroVS
  obtain ⟨Z, hZ⟩ : ∃ Z, (⟨0, ⟨0, false, false, false, false, false, false, false, 0⟩⟩ : Sn) = Z := ⟨_, rfl⟩
  rw [hZ] at zz
  clear hR hY hbig hn hn' ni hZ
  go_enter Tryd.func42, Tryd.ntmps42
  go_wp2
  go_loopw [4, 12] (fun t i wz => ∃ (j : Nat) (u : Int) (y : World), y = wz ∧ t = .int .i64 u ∧ i = .int .i64 (j : Int) ∧ 0 ≤ u ∧ u ≤ 4194304 ∧ Hid (j ≤ n ∧ (inB l = inB (l.drop j)) ∧ sumC l = u + sumC (l.drop j)) ∧ Hid (Fm w [] y)) (fun _ i _ => (n - intOf i).toNat)
  case atStart => exact ⟨0, 0, w, rfl, rfl, rfl, by decide, by decide, ⟨by omega, rfl, by simp⟩, Fm.nil w⟩
  case round =>
    obtain ⟨j, u, y, rfl, rfl, rfl, u0, u1, J, K⟩ := hrel
    by_cases hlt : j < n
    · obtain ⟨s, hs, hdrop⟩ := at_list hl'.out hlt
      obtain ⟨gb, ob, rfl, hRg⟩ := hl.out j s hs
      obtain ⟨c, sa⟩ := s
      have hRg : Hid (w.rangeAt gb (ob + j * 10) (spC ⟨c, sa⟩).toList) := hRg
      have ij := fun v => idxP (g := gb) (off := ob) (len := n) (cap := cap) Tryd.underlying38 (s := 10) (by kernel_rfl) .i64 j v hlt
      have hji : (j : Int) < n := by omega
      have hlt' : Hid (j < n) := hlt
      have K2 : Hid (inB l = (decide (1 ≤ c) && decide (c ≤ 1048576) && inB (l.drop (j + 1))) ∧ sumC l = u + c + sumC (l.drop (j + 1))) := by
        have h1 := J.out.2.1
        have h2 := J.out.2.2
        rw [hdrop] at h1 h2
        simp only [inB, sumC] at h1 h2
        exact ⟨h1, by omega⟩
      replace hs : Hid _ := hs
      replace hdrop : Hid _ := hdrop
      clear hlt
      by_cases h1 : c < 1
      · have q1 : decide (c < 1) = true := by simpa using h1
        have fin : Hid (R = 70 ∧ Y = 0) := bad.out (fun h => by
          have := h.1
          rw [K2.out.1] at this
          simp at this
          omega)
        obtain ⟨rfl, rfl⟩ := fin.out
        clear h1 bad hR' hY' fin
        go_wp2_with (first
            | ((with_reducible refine at_loadm rtS gb (ob + j * 10) (spC ⟨c, sa⟩) ?_ ?_ (.tmp 14) ?_ ?_ ?_ ?_); exact range_keep hRg.out K.out.low; rfl; kernel_rfl; rfl; rfl)
            | ((with_reducible refine gen_world (y.alloc (.cells (spC Z) 37)) (Fm w [(y.heap.size, spC Z, 37)]) ?_ ?_); exact K.out.new _ _; intro y1 K1)
            | ((with_reducible refine at_st rtS y.heap.size (spC Z) (spC ⟨c, sa⟩) ?_ ?_ ?_ ?_ (.tmp 6) (.tmp 15) ?_ ?_ ?_ ?_ ?_); exact K1.out.bx 0 _ _ _ rfl; rfl; rfl; exact spC_one _; rfl; rfl; rfl; rfl; intro y2 hw2; have K3 : Hid (Fm w [(y.heap.size, spC ⟨c, sa⟩, 37)] y2) := K1.out.put 0 _ _ _ _ rfl hw2.out; have d2 := (K3.out.bx 0 _ _ _ rfl).c 0 _ (spC_c ⟨c, sa⟩); dsimp only at d2))
        go_ret2
        exact ⟨rfl, K3.out.low⟩
      · have q1 : decide (c < 1) = false := by simpa using h1
        by_cases h2 : 1048576 < c
        · have q2 : decide (1048576 < c) = true := by simpa using h2
          have fin : Hid (R = 70 ∧ Y = 0) := bad.out (fun h => by
            have := h.1
            rw [K2.out.1] at this
            simp at this
            omega)
          obtain ⟨rfl, rfl⟩ := fin.out
          clear h1 h2 bad hR' hY' fin
          go_wp2_with (first
            | ((with_reducible refine at_loadm rtS gb (ob + j * 10) (spC ⟨c, sa⟩) ?_ ?_ (.tmp 14) ?_ ?_ ?_ ?_); exact range_keep hRg.out K.out.low; rfl; kernel_rfl; rfl; rfl)
            | ((with_reducible refine gen_world (y.alloc (.cells (spC Z) 37)) (Fm w [(y.heap.size, spC Z, 37)]) ?_ ?_); exact K.out.new _ _; intro y1 K1)
            | ((with_reducible refine at_st rtS y.heap.size (spC Z) (spC ⟨c, sa⟩) ?_ ?_ ?_ ?_ (.tmp 6) (.tmp 15) ?_ ?_ ?_ ?_ ?_); exact K1.out.bx 0 _ _ _ rfl; rfl; rfl; exact spC_one _; rfl; rfl; rfl; rfl; intro y2 hw2; have K3 : Hid (Fm w [(y.heap.size, spC ⟨c, sa⟩, 37)] y2) := K1.out.put 0 _ _ _ _ rfl hw2.out; have d2 := (K3.out.bx 0 _ _ _ rfl).c 0 _ (spC_c ⟨c, sa⟩); dsimp only at d2))
          go_ret2
          exact ⟨rfl, K3.out.low⟩
        · have q2 : decide (1048576 < c) = false := by simpa using h2
          have cb : 1 ≤ c := by omega
          have cb2 : c ≤ 1048576 := by omega
          have fin : Hid (inB l = inB (l.drop (j + 1)) ∧ sumC l = u + c + sumC (l.drop (j + 1))) := by
            refine ⟨?_, K2.out.2⟩
            rw [K2.out.1]
            simp [cb, cb2]
          by_cases h3 : 4194304 < u + c
          · have q3 : decide (4194304 < u + c) = true := by simpa using h3
            have fin2 : Hid (R = 70 ∧ Y = 0) := bad.out (fun h => by
              have h4 := h.1
              rw [fin.out.1] at h4
              have h5 := sumC_nonneg ((inB_iff _).1 h4).pos
              have := fin.out.2
              omega)
            obtain ⟨rfl, rfl⟩ := fin2.out
            clear h1 h2 h3 bad hR' hY' fin2
            go_wp2_with (first
              | ((with_reducible refine at_loadm rtS gb (ob + j * 10) (spC ⟨c, sa⟩) ?_ ?_ (.tmp 14) ?_ ?_ ?_ ?_); exact range_keep hRg.out K.out.low; rfl; kernel_rfl; rfl; rfl)
              | ((with_reducible refine gen_world (y.alloc (.cells (spC Z) 37)) (Fm w [(y.heap.size, spC Z, 37)]) ?_ ?_); exact K.out.new _ _; intro y1 K1)
              | ((with_reducible refine at_st rtS y.heap.size (spC Z) (spC ⟨c, sa⟩) ?_ ?_ ?_ ?_ (.tmp 6) (.tmp 15) ?_ ?_ ?_ ?_ ?_); exact K1.out.bx 0 _ _ _ rfl; rfl; rfl; exact spC_one _; rfl; rfl; rfl; rfl; intro y2 hw2; have K3 : Hid (Fm w [(y.heap.size, spC ⟨c, sa⟩, 37)] y2) := K1.out.put 0 _ _ _ _ rfl hw2.out; have d2 := (K3.out.bx 0 _ _ _ rfl).c 0 _ (spC_c ⟨c, sa⟩); dsimp only at d2))
            go_ret2
            exact ⟨rfl, K3.out.low⟩
          · have q3 : decide (4194304 < u + c) = false := by simpa using h3
            have u2 : u + c ≤ 4194304 := by omega
            clear h1 h2 h3
            go_wp2_with (first
              | ((with_reducible refine at_loadm rtS gb (ob + j * 10) (spC ⟨c, sa⟩) ?_ ?_ (.tmp 14) ?_ ?_ ?_ ?_); exact range_keep hRg.out K.out.low; rfl; kernel_rfl; rfl; rfl)
              | ((with_reducible refine gen_world (y.alloc (.cells (spC Z) 37)) (Fm w [(y.heap.size, spC Z, 37)]) ?_ ?_); exact K.out.new _ _; intro y1 K1)
              | ((with_reducible refine at_st rtS y.heap.size (spC Z) (spC ⟨c, sa⟩) ?_ ?_ ?_ ?_ (.tmp 6) (.tmp 15) ?_ ?_ ?_ ?_ ?_); exact K1.out.bx 0 _ _ _ rfl; rfl; rfl; exact spC_one _; rfl; rfl; rfl; rfl; intro y2 hw2; have K3 : Hid (Fm w [(y.heap.size, spC ⟨c, sa⟩, 37)] y2) := K1.out.put 0 _ _ _ _ rfl hw2.out; have d2 := (K3.out.bx 0 _ _ _ rfl).c 0 _ (spC_c ⟨c, sa⟩); dsimp only at d2))
            go_roundw
            case rel => exact ⟨j + 1, u + c, _, rfl, rfl, by simp, by omega, by omega, ⟨by have := hlt'.out; omega, fin.out.1, fin.out.2⟩, (by exact K3.out.pre (l := []))⟩
            case measure => have := hlt'.out; simp [intOf]; omega
    · have hje : j = n := by have := J.out.1; omega
      subst hje
      have fin : Hid (R = 0 ∧ u = Y) := by
        have h1 := J.out.2.1
        have h2 := J.out.2.2
        rw [List.drop_eq_nil_of_le (by rw [hl'.out]; exact Nat.le_refl _)] at h1 h2
        simp only [inB, sumC] at h1 h2
        have h3 := hR'.out
        rw [if_pos ⟨h1, by omega⟩] at h3
        have h4 := hY'.out
        rw [if_pos h3] at h4
        exact ⟨h3, by omega⟩
      obtain ⟨rfl, rfl⟩ := fin.out
      clear hlt bad hR' hY' fin
      go_wp2
      go_ret2
      exact ⟨rfl, K.out.low⟩
theorem check_any (w : World) (sp : Option Addr) (cap : Nat) (l : List Sn) (hl : Hid (LiesS w sp l)) (hn : l.length ≤ 9223372036854775807) :
    Calls Tryd.prog 31 #[.slice sp l.length cap] w fun e w' => e = .returned (.int .i64 (checkS l)) ∧ Below w.heap.size w w' := by
  have h := cycles_any w sp cap l hl hn
  go_enter Tryd.func31, Tryd.ntmps31
  go_wp2_with (go_at_call 42; refine h.mono ?_; rintro e x ⟨rfl, hx⟩)
  go_ret
  exact ⟨rfl, hx⟩
end Go.Proofs.YtdfjfacilbahkaaDoor
