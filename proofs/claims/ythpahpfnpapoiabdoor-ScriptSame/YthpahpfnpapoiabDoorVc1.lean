/- A script cut in two: the program's. -/
import Derived.Test.YthpahpfnpapoiabDoorVc0
namespace Go.Proofs.YthpahpfnpapoiabDoor
open Go Go.RowKit
set_option linter.unusedVariables false
set_option maxHeartbeats 2000000
set_option maxRecDepth 20000

theorem cut_any (w : World) (sp : Option Addr) (cap : Nat) (l : List Sn) (n0 : Int) (hl : Hid (LiesS w sp l)) (hn : l.length ≤ 2147483647) :
    Calls Tryd.prog 14 #[.slice sp l.length cap, .int .i64 n0] w fun e w' => ∃ va vb, e = .returned (.tuple #[va, vb, .int .i64 (cutE l n0)]) ∧ Hid (Ct w va vb (outA l n0) (outB l n0) [] w') := by
  have hC := cycles_any w sp cap l hl hn
  obtain ⟨n, hn'⟩ : ∃ n, l.length = n := ⟨_, rfl⟩
  have ni : (n : Int) ≤ 2147483647 := by omega
  have C0 : Hid (Ct w (.slice none 0 0) (.slice none 0 0) [] [] [] w) := Ct.nil w
  by_cases h0 : ¬ checkS l = 0
  · have e1 : cutE l n0 = checkS l := by unfold cutE; rw [if_pos h0]
    have e2 : outA l n0 = [] := by unfold outA; rw [if_neg (by rw [e1]; exact h0)]
    have e3 : outB l n0 = [] := by unfold outB; rw [if_neg (by rw [e1]; exact h0)]
    rw [e1, e2, e3]
    obtain ⟨C, hCe⟩ : ∃ C, checkS l = C := ⟨_, rfl⟩
    obtain ⟨Y, hY⟩ : ∃ C, cyclesS l = C := ⟨_, rfl⟩
    rw [hCe, hY] at hC
    rw [hCe] at h0 ⊢
    rw [hn'] at hC ⊢
    have q : (C != 0) = true := by simpa using h0
    clear h0 e1 e2 e3 hCe hY hn hn'
    go_enter Tryd.func14, Tryd.ntmps14
    go_wp2_with (go_at_call 13; refine hC.mono ?_; rintro e x ⟨rfl, hx⟩)
    go_ret3
    exact ⟨_, _, rfl, C0.out.below hx⟩
  replace h0 : checkS l = 0 := Decidable.of_not_not h0
  obtain ⟨k1, k2, k3⟩ := check_ok h0
  have hP := k2.pos
  have hS0 := sumC_nonneg hP
  rw [h0, show cyclesS l = sumC l by unfold cyclesS; rw [if_pos h0]] at hC
  by_cases hb : n0 < 0 ∨ sumC l < n0
  · have e1 : cutE l n0 = 1 := by unfold cutE; rw [if_neg (by simpa using h0), if_pos hb]
    have e2 : outA l n0 = [] := by unfold outA; rw [if_neg (by rw [e1]; decide)]
    have e3 : outB l n0 = [] := by unfold outB; rw [if_neg (by rw [e1]; decide)]
    rw [e1, e2, e3]
    obtain ⟨Y, hY⟩ : ∃ C, sumC l = C := ⟨_, rfl⟩
    rw [hY] at hC hb
    rw [hn'] at hC ⊢
    by_cases h1 : n0 < 0
    · have q1 : decide (n0 < 0) = true := by simpa using h1
      clear h0 e1 e2 e3 hY hn hn' k1 k2 k3 hP hS0 hb h1
      go_enter Tryd.func14, Tryd.ntmps14
      go_wp2_with (go_at_call 13; refine hC.mono ?_; rintro e x ⟨rfl, hx⟩)
      go_ret3
      exact ⟨_, _, rfl, C0.out.below hx⟩
    · have q1 : decide (n0 < 0) = false := by simpa using h1
      have q2 : decide (Y < n0) = true := by simp; omega
      clear h0 e1 e2 e3 hY hn hn' k1 k2 k3 hP hS0 hb h1
      go_enter Tryd.func14, Tryd.ntmps14
      go_wp2_with (go_at_call 13; refine hC.mono ?_; rintro e x ⟨rfl, hx⟩)
      go_ret3
      exact ⟨_, _, rfl, C0.out.below hx⟩
  have e1 : cutE l n0 = 0 := by unfold cutE; rw [if_neg (by simpa using h0), if_neg hb]
  have e2 : outA l n0 = cutA l n0 := by unfold outA; rw [if_pos e1]
  have e3 : outB l n0 = cutB l n0 := by unfold outB; rw [if_pos e1]
  rw [e1, e2, e3]
  obtain ⟨Y, hY⟩ : ∃ C, sumC l = C := ⟨_, rfl⟩
  rw [hY] at hC hb k3 hS0
  rw [hn'] at hC ⊢
  have q1 : decide (n0 < 0) = false := by simp; omega
  have q2 : decide (Y < n0) = false := by simp; omega
  have r0 : 0 ≤ n0 := by omega
  have r1 : n0 ≤ 4194304 := by omega
  obtain ⟨CA, hCA⟩ : ∃ x, cutA l n0 = x := ⟨_, rfl⟩
  obtain ⟨CB, hCB⟩ : ∃ x, cutB l n0 = x := ⟨_, rfl⟩
  have hCA' : Hid (cutA l n0 = CA) := hCA
  have hCB' : Hid (cutB l n0 = CB) := hCB
  rw [hCA, hCB]
  have hl' : Hid (l.length = n) := hn'
  have hn4 : Hid (n ≤ 4096) := by show n ≤ 4096; omega
  have hIn : Hid (InM 1048576 l) := k2
  have ni4 : (n : Int) ≤ 4096 := by omega
  have zz := zeroVS
  obtain ⟨Z, hZ⟩ : ∃ Z, (⟨0, ⟨0, false, false, false, false, false, false, false, 0⟩⟩ : Sn) = Z := ⟨_, rfl⟩
  rw [hZ] at zz
  clear h0 e1 e2 e3 hY hn hn' k1 k2 k3 hP hS0 hb hCA hCB ni hZ
  go_enter Tryd.func14, Tryd.ntmps14
  go_wp2_with (go_at_call 13; refine hC.mono ?_; rintro e x ⟨rfl, hx⟩)
  have hx : Hid (Below w.heap.size w x) := hx
  go_loopw [1, 9, 10, 31] (fun t a b i wz => ∃ (j : Nat) (r : Int) (va vb : Value) (A Bl : List Sn) (y : World), y = wz ∧ t = .int .i64 r ∧ va = a ∧ vb = b ∧ i = .int .i64 (j : Int) ∧ 0 ≤ r ∧ r ≤ 4194304 ∧ Hid (j ≤ n ∧ CA = A ++ cutA (l.drop j) r ∧ CB = Bl ++ cutB (l.drop j) r) ∧ Hid (A.length ≤ j) ∧ Hid (Bl.length ≤ j) ∧ Hid (Ct w va vb A Bl [] y)) (fun _ _ _ i _ => (n - intOf i).toNat)
  case atStart => exact ⟨0, n0, _, _, [], [], x, rfl, rfl, rfl, rfl, rfl, r0, r1, ⟨by omega, hCA'.out.symm, hCB'.out.symm⟩, Nat.le_refl _, Nat.le_refl _, C0.out.below hx.out⟩
  case round =>
    obtain ⟨j, r, va, vb, A, Bl, y, rfl, rfl, rfl, rfl, rfl, s0, s1, J, hAl, hBl, K⟩ := hrel
    clear C0 hC r0 r1 q1 q2
    by_cases hlt : j < n
    · obtain ⟨s, hs, hdrop⟩ := at_list hl'.out hlt
      obtain ⟨gb, ob, rfl, hR⟩ := hl.out j s hs
      obtain ⟨c, sa⟩ := s
      have hR : Hid (w.rangeAt gb (ob + j * 10) (spC ⟨c, sa⟩).toList) := hR
      have ij := fun v => idxP (g := gb) (off := ob) (len := n) (cap := cap) Tryd.underlying22 (s := 10) (by kernel_rfl) .i64 j v hlt
      have hd := drop_in hIn.out j
      rw [hdrop] at hd
      have c1 : 1 ≤ c := hd.1.1
      have c2 : c ≤ 1048576 := hd.1.2
      have hji : (j : Int) < n := by omega
      have hlt' : Hid (j < n) := hlt
      have hbA : Hid (A.length ≤ 100000) := by have := hAl.out; have := hlt'.out; have := hn4.out; show A.length ≤ 100000; omega
      have hbB : Hid (Bl.length ≤ 100000) := by have := hBl.out; have := hlt'.out; have := hn4.out; show Bl.length ≤ 100000; omega
      have J2 : Hid (CA = A ++ ((if 0 < min r c then [⟨min r c, sa⟩] else []) ++ cutA (l.drop (j + 1)) (r - min r c)) ∧ CB = Bl ++ ((if min r c < c then [⟨c - min r c, sa⟩] else []) ++ cutB (l.drop (j + 1)) (r - min r c))) := by
        obtain ⟨_, h1, h2⟩ := J.out
        rw [hdrop] at h1 h2
        exact ⟨h1, h2⟩
      replace hs : Hid _ := hs
      replace hdrop : Hid _ := hdrop
      clear hd hlt
      rcases Int.lt_trichotomy c r with hc | hc | hc
      · have em : min r c = c := by omega
        have fin : Hid (CA = (A ++ [⟨c, sa⟩]) ++ cutA (l.drop (j + 1)) (r - c) ∧ CB = Bl ++ cutB (l.drop (j + 1)) (r - c)) := by
          obtain ⟨h1, h2⟩ := J2.out
          rw [em, if_pos (by omega)] at h1
          rw [em, if_neg (by omega)] at h2
          exact ⟨by rw [h1, List.append_assoc], h2⟩
        have hM := fun y2 (k : OwnS w.heap.size y2 va A) (h : w.heap.size ≤ y2.heap.size) => lay_more y2 w.heap.size h va A k hbA.out ⟨c, sa⟩ c (by omega)
        have hZ0 := fun y2 => lay_zero y2 vb ⟨c, sa⟩
        replace hM : Hid _ := hM
        clear J2
        go_wp2_with (first
          | ((with_reducible refine at_loadm rtS gb (ob + j * 10) (spC ⟨c, sa⟩) ?_ ?_ (.tmp 33) ?_ ?_ ?_ ?_); exact range_keep hR.out K.out.fm.low; rfl; kernel_rfl; rfl; rfl)
          | ((with_reducible refine gen_world (y.alloc (.cells (spC Z) 43)) (Ct w va vb A Bl [(y.heap.size, spC Z, 43)]) ?_ ?_); exact K.out.new _ _; intro y1 K1)
          | ((with_reducible refine at_st rtS y.heap.size (spC Z) (spC ⟨c, sa⟩) ?_ ?_ ?_ ?_ (.tmp 12) (.tmp 34) ?_ ?_ ?_ ?_ ?_); exact K1.out.fm.bx 0 _ _ _ rfl; rfl; rfl; exact spC_one _; rfl; rfl; rfl; rfl; intro y2 hw2; have K2 : Hid (Ct w va vb A Bl [(y.heap.size, spC ⟨c, sa⟩, 43)] y2) := K1.out.put 0 _ _ _ _ rfl hw2.out; have d2 := (K2.out.fm.bx 0 _ _ _ rfl).c 0 _ (spC_c ⟨c, sa⟩); dsimp only at d2)
          | ((with_reducible refine at_load rtS y.heap.size (spC ⟨c, sa⟩) ?_ ?_ (.tmp 12) ?_ ?_ ?_ ?_); exact K2.out.fm.bx 0 _ _ _ rfl; rfl; kernel_rfl; rfl; rfl)
          | (go_at_call 27; refine (hM.out y2 K2.out.oa K2.out.fm.low.size).mono ?_; rintro e y3 ⟨va', rfl, H3⟩; have K3 : Hid (Ct w va' vb (A ++ [⟨c, sa⟩]) Bl [(y.heap.size, spC ⟨c, sa⟩, 43)] y3) := (by obtain ⟨x, h1, h2⟩ := H3.out; exact K2.out.appA2 h1 h2); clear H3 d2; have d3 := (K3.out.fm.bx 0 _ _ _ rfl).c 0 _ (spC_c ⟨c, sa⟩); dsimp only at d3; refine stopAt ?_))
        refine Stop.go ?_
        go_wp2_with (first
          | ((with_reducible refine at_load rtS y.heap.size (spC ⟨c, sa⟩) ?_ ?_ (.tmp 12) ?_ ?_ ?_ ?_); exact K3.out.fm.bx 0 _ _ _ rfl; rfl; kernel_rfl; rfl; rfl)
          | (go_at_call 27; refine (hZ0 y3).mono ?_; rintro e y4 ⟨rfl, H4⟩; have K4 : Hid (Ct w va' vb (A ++ [⟨c, sa⟩]) Bl [(y.heap.size, spC ⟨c, sa⟩, 43)] y4) := K3.out.below H4))
        go_roundw
        case rel => exact ⟨j + 1, r - c, va', vb, A ++ [⟨c, sa⟩], Bl, _, rfl, rfl, rfl, rfl, by simp, by omega, by omega, ⟨by have := hlt'.out; omega, fin.out.1, fin.out.2⟩, (by show (A ++ [_]).length ≤ j + 1; have := hAl.out; simp; omega), (by show Bl.length ≤ j + 1; have := hBl.out; omega), (by exact K4.out.pre (bs := []))⟩
        case measure => have := hlt'.out; simp [intOf]; omega
      · subst hc
        have em : min c c = c := by omega
        have fin : Hid (CA = (A ++ [⟨c, sa⟩]) ++ cutA (l.drop (j + 1)) (c - c) ∧ CB = Bl ++ cutB (l.drop (j + 1)) (c - c)) := by
          obtain ⟨h1, h2⟩ := J2.out
          rw [em, if_pos (by omega)] at h1
          rw [em, if_neg (by omega)] at h2
          exact ⟨by rw [h1, List.append_assoc], h2⟩
        rw [Int.sub_self] at fin
        have hM := fun y2 (k : OwnS w.heap.size y2 va A) (h : w.heap.size ≤ y2.heap.size) => lay_more y2 w.heap.size h va A k hbA.out ⟨c, sa⟩ c (by omega)
        have hZ0 := fun y2 => lay_zero y2 vb ⟨c, sa⟩
        replace hM : Hid _ := hM
        clear J2
        go_wp2_with (first
          | ((with_reducible refine at_loadm rtS gb (ob + j * 10) (spC ⟨c, sa⟩) ?_ ?_ (.tmp 33) ?_ ?_ ?_ ?_); exact range_keep hR.out K.out.fm.low; rfl; kernel_rfl; rfl; rfl)
          | ((with_reducible refine gen_world (y.alloc (.cells (spC Z) 43)) (Ct w va vb A Bl [(y.heap.size, spC Z, 43)]) ?_ ?_); exact K.out.new _ _; intro y1 K1)
          | ((with_reducible refine at_st rtS y.heap.size (spC Z) (spC ⟨c, sa⟩) ?_ ?_ ?_ ?_ (.tmp 12) (.tmp 34) ?_ ?_ ?_ ?_ ?_); exact K1.out.fm.bx 0 _ _ _ rfl; rfl; rfl; exact spC_one _; rfl; rfl; rfl; rfl; intro y2 hw2; have K2 : Hid (Ct w va vb A Bl [(y.heap.size, spC ⟨c, sa⟩, 43)] y2) := K1.out.put 0 _ _ _ _ rfl hw2.out; have d2 := (K2.out.fm.bx 0 _ _ _ rfl).c 0 _ (spC_c ⟨c, sa⟩); dsimp only at d2)
          | ((with_reducible refine at_load rtS y.heap.size (spC ⟨c, sa⟩) ?_ ?_ (.tmp 12) ?_ ?_ ?_ ?_); exact K2.out.fm.bx 0 _ _ _ rfl; rfl; kernel_rfl; rfl; rfl)
          | (go_at_call 27; refine (hM.out y2 K2.out.oa K2.out.fm.low.size).mono ?_; rintro e y3 ⟨va', rfl, H3⟩; have K3 : Hid (Ct w va' vb (A ++ [⟨c, sa⟩]) Bl [(y.heap.size, spC ⟨c, sa⟩, 43)] y3) := (by obtain ⟨x, h1, h2⟩ := H3.out; exact K2.out.appA2 h1 h2); clear H3 d2; have d3 := (K3.out.fm.bx 0 _ _ _ rfl).c 0 _ (spC_c ⟨c, sa⟩); dsimp only at d3; refine stopAt ?_))
        refine Stop.go ?_
        go_wp2_with (first
          | ((with_reducible refine at_load rtS y.heap.size (spC ⟨c, sa⟩) ?_ ?_ (.tmp 12) ?_ ?_ ?_ ?_); exact K3.out.fm.bx 0 _ _ _ rfl; rfl; kernel_rfl; rfl; rfl)
          | (go_at_call 27; refine (hZ0 y3).mono ?_; rintro e y4 ⟨rfl, H4⟩; have K4 : Hid (Ct w va' vb (A ++ [⟨c, sa⟩]) Bl [(y.heap.size, spC ⟨c, sa⟩, 43)] y4) := K3.out.below H4))
        go_roundw
        case rel => exact ⟨j + 1, 0, va', vb, A ++ [⟨c, sa⟩], Bl, _, rfl, rfl, rfl, rfl, by simp, by omega, by omega, ⟨by have := hlt'.out; omega, fin.out.1, fin.out.2⟩, (by show (A ++ [_]).length ≤ j + 1; have := hAl.out; simp; omega), (by show Bl.length ≤ j + 1; have := hBl.out; omega), (by exact K4.out.pre (bs := []))⟩
        case measure => have := hlt'.out; simp [intOf]; omega
      · have em : min r c = r := by omega
        by_cases hr0 : r = 0
        · subst hr0
          have fin : Hid (CA = A ++ cutA (l.drop (j + 1)) 0 ∧ CB = (Bl ++ [⟨c, sa⟩]) ++ cutB (l.drop (j + 1)) 0) := by
            obtain ⟨h1, h2⟩ := J2.out
            rw [em, if_neg (by decide)] at h1
            rw [em, if_pos (by omega), Int.sub_zero] at h2
            exact ⟨by rw [h1]; simp, by rw [h2, List.append_assoc]; simp⟩
          have hM := fun y2 (k : OwnS w.heap.size y2 vb Bl) (h : w.heap.size ≤ y2.heap.size) => lay_more y2 w.heap.size h vb Bl k hbB.out ⟨c, sa⟩ c (by omega)
          have hZ0 := fun y2 => lay_zero y2 va ⟨c, sa⟩
          replace hM : Hid _ := hM
          clear J2
          go_wp2_with (first
          | ((with_reducible refine at_loadm rtS gb (ob + j * 10) (spC ⟨c, sa⟩) ?_ ?_ (.tmp 33) ?_ ?_ ?_ ?_); exact range_keep hR.out K.out.fm.low; rfl; kernel_rfl; rfl; rfl)
          | ((with_reducible refine gen_world (y.alloc (.cells (spC Z) 43)) (Ct w va vb A Bl [(y.heap.size, spC Z, 43)]) ?_ ?_); exact K.out.new _ _; intro y1 K1)
          | ((with_reducible refine at_st rtS y.heap.size (spC Z) (spC ⟨c, sa⟩) ?_ ?_ ?_ ?_ (.tmp 12) (.tmp 34) ?_ ?_ ?_ ?_ ?_); exact K1.out.fm.bx 0 _ _ _ rfl; rfl; rfl; exact spC_one _; rfl; rfl; rfl; rfl; intro y2 hw2; have K2 : Hid (Ct w va vb A Bl [(y.heap.size, spC ⟨c, sa⟩, 43)] y2) := K1.out.put 0 _ _ _ _ rfl hw2.out; have d2 := (K2.out.fm.bx 0 _ _ _ rfl).c 0 _ (spC_c ⟨c, sa⟩); dsimp only at d2)
          | ((with_reducible refine at_load rtS y.heap.size (spC ⟨c, sa⟩) ?_ ?_ (.tmp 12) ?_ ?_ ?_ ?_); exact K2.out.fm.bx 0 _ _ _ rfl; rfl; kernel_rfl; rfl; rfl)
            | (go_at_call 27; refine (hZ0 y2).mono ?_; rintro e y3 ⟨rfl, H3⟩; have K3 : Hid (Ct w va vb A Bl [(y.heap.size, spC ⟨c, sa⟩, 43)] y3) := K2.out.below H3; clear H3 d2; have d3 := (K3.out.fm.bx 0 _ _ _ rfl).c 0 _ (spC_c ⟨c, sa⟩); dsimp only at d3; refine stopAt ?_))
          refine Stop.go ?_
          go_wp2_with (first
            | ((with_reducible refine at_load rtS y.heap.size (spC ⟨c, sa⟩) ?_ ?_ (.tmp 12) ?_ ?_ ?_ ?_); exact K3.out.fm.bx 0 _ _ _ rfl; rfl; kernel_rfl; rfl; rfl)
            | (go_at_call 27; refine (hM.out y3 K3.out.ob K3.out.fm.low.size).mono ?_; rintro e y4 ⟨vb', rfl, H4⟩; have K4 : Hid (Ct w va vb' A (Bl ++ [⟨c, sa⟩]) [(y.heap.size, spC ⟨c, sa⟩, 43)] y4) := (by obtain ⟨x, h1, h2⟩ := H4.out; exact K3.out.appB2 h1 h2)))
          go_roundw
          case rel => exact ⟨j + 1, 0, va, vb', A, Bl ++ [⟨c, sa⟩], _, rfl, rfl, rfl, rfl, by simp, by omega, by omega, ⟨by have := hlt'.out; omega, fin.out.1, fin.out.2⟩, (by show A.length ≤ j + 1; have := hAl.out; omega), (by show (Bl ++ [_]).length ≤ j + 1; have := hBl.out; simp; omega), (by exact K4.out.pre (bs := []))⟩
          case measure => have := hlt'.out; simp [intOf]; omega
        · have fin : Hid (CA = (A ++ [⟨r, sa⟩]) ++ cutA (l.drop (j + 1)) 0 ∧ CB = (Bl ++ [⟨c - r, sa⟩]) ++ cutB (l.drop (j + 1)) 0) := by
            obtain ⟨h1, h2⟩ := J2.out
            rw [em, if_pos (by omega), Int.sub_self] at h1
            rw [em, if_pos (by omega), Int.sub_self] at h2
            exact ⟨by rw [h1, List.append_assoc], by rw [h2, List.append_assoc]⟩
          have hM := fun y2 (k : OwnS w.heap.size y2 va A) (h : w.heap.size ≤ y2.heap.size) => lay_more y2 w.heap.size h va A k hbA.out ⟨c, sa⟩ r hr0
          have hM2 := fun y2 (k : OwnS w.heap.size y2 vb Bl) (h : w.heap.size ≤ y2.heap.size) => lay_more y2 w.heap.size h vb Bl k hbB.out ⟨c, sa⟩ (c - r) (by omega)
          replace hM : Hid _ := hM
          replace hM2 : Hid _ := hM2
          clear J2
          go_wp2_with (first
          | ((with_reducible refine at_loadm rtS gb (ob + j * 10) (spC ⟨c, sa⟩) ?_ ?_ (.tmp 33) ?_ ?_ ?_ ?_); exact range_keep hR.out K.out.fm.low; rfl; kernel_rfl; rfl; rfl)
          | ((with_reducible refine gen_world (y.alloc (.cells (spC Z) 43)) (Ct w va vb A Bl [(y.heap.size, spC Z, 43)]) ?_ ?_); exact K.out.new _ _; intro y1 K1)
          | ((with_reducible refine at_st rtS y.heap.size (spC Z) (spC ⟨c, sa⟩) ?_ ?_ ?_ ?_ (.tmp 12) (.tmp 34) ?_ ?_ ?_ ?_ ?_); exact K1.out.fm.bx 0 _ _ _ rfl; rfl; rfl; exact spC_one _; rfl; rfl; rfl; rfl; intro y2 hw2; have K2 : Hid (Ct w va vb A Bl [(y.heap.size, spC ⟨c, sa⟩, 43)] y2) := K1.out.put 0 _ _ _ _ rfl hw2.out; have d2 := (K2.out.fm.bx 0 _ _ _ rfl).c 0 _ (spC_c ⟨c, sa⟩); dsimp only at d2)
          | ((with_reducible refine at_load rtS y.heap.size (spC ⟨c, sa⟩) ?_ ?_ (.tmp 12) ?_ ?_ ?_ ?_); exact K2.out.fm.bx 0 _ _ _ rfl; rfl; kernel_rfl; rfl; rfl)
            | (go_at_call 27; refine (hM.out y2 K2.out.oa K2.out.fm.low.size).mono ?_; rintro e y3 ⟨va', rfl, H3⟩; have K3 : Hid (Ct w va' vb (A ++ [⟨r, sa⟩]) Bl [(y.heap.size, spC ⟨c, sa⟩, 43)] y3) := (by obtain ⟨x, h1, h2⟩ := H3.out; exact K2.out.appA2 h1 h2); clear H3 d2; have d3 := (K3.out.fm.bx 0 _ _ _ rfl).c 0 _ (spC_c ⟨c, sa⟩); dsimp only at d3; refine stopAt ?_))
          refine Stop.go ?_
          go_wp2_with (first
            | ((with_reducible refine at_load rtS y.heap.size (spC ⟨c, sa⟩) ?_ ?_ (.tmp 12) ?_ ?_ ?_ ?_); exact K3.out.fm.bx 0 _ _ _ rfl; rfl; kernel_rfl; rfl; rfl)
            | (go_at_call 27; refine (hM2.out y3 K3.out.ob K3.out.fm.low.size).mono ?_; rintro e y4 ⟨vb', rfl, H4⟩; have K4 : Hid (Ct w va' vb' (A ++ [⟨r, sa⟩]) (Bl ++ [⟨c - r, sa⟩]) [(y.heap.size, spC ⟨c, sa⟩, 43)] y4) := (by obtain ⟨x, h1, h2⟩ := H4.out; exact K3.out.appB2 h1 h2)))
          go_roundw
          case rel => exact ⟨j + 1, 0, va', vb', A ++ [⟨r, sa⟩], Bl ++ [⟨c - r, sa⟩], _, rfl, by simp, rfl, rfl, by simp, by omega, by omega, ⟨by have := hlt'.out; omega, fin.out.1, fin.out.2⟩, (by show (A ++ [_]).length ≤ j + 1; have := hAl.out; simp; omega), (by show (Bl ++ [_]).length ≤ j + 1; have := hBl.out; simp; omega), (by exact K4.out.pre (bs := []))⟩
          case measure => have := hlt'.out; simp [intOf]; omega
    · have hje : j = n := by have := J.out.1; omega
      subst hje
      have fin : Hid (CA = A ∧ CB = Bl) := by
        obtain ⟨_, h1, h2⟩ := J.out
        rw [List.drop_eq_nil_of_le (by rw [hl'.out]; exact Nat.le_refl _)] at h1 h2
        exact ⟨by rw [h1]; simp [cutA], by rw [h2]; simp [cutB]⟩
      obtain ⟨rfl, rfl⟩ := fin.out
      clear hlt fin hCA' hCB' J
      go_wp2
      go_ret3
      exact ⟨_, _, rfl, K⟩
end Go.Proofs.YthpahpfnpapoiabDoor
