/- A script cut in two, by the document: the walk. -/
import Derived.Test.YthpahpfnpapoiaaDoorXh
namespace Go.Proofs.YthpahpfnpapoiaaDoor
open Go Go.RowKit
set_option linter.unusedVariables false
set_option maxHeartbeats 1000000
set_option maxRecDepth 20000

theorem rcut_any (w : World) (sp : Option Addr) (cap : Nat) (l : List Sn) (n0 : Int) (hl : Hid (LiesS w sp l)) (hn : l.length ≤ 9223372036854775807) :
    Calls Tryd.prog 22 #[.slice sp l.length cap, .int .i64 n0] w fun e w' => ∃ va vb, e = .returned (.tuple #[va, vb, .int .i64 (cutE l n0)]) ∧ Hid (Ct w va vb (outA l n0) (outB l n0) [] w') := by
  have hC := rcycles_any w sp cap l hl hn
  obtain ⟨n, hn'⟩ : ∃ n, l.length = n := ⟨_, rfl⟩
  have ni : (n : Int) ≤ 9223372036854775807 := by omega
  have C0 : Hid (Ct w (.slice none 0 0) (.slice none 0 0) [] [] [] w) := Ct.nil w
  by_cases h0 : ¬ checkS l = 0
  · have e1 : cutE l n0 = checkS l := by unfold cutE; rw [if_pos h0]
    have e2 : outA l n0 = [] := by unfold outA; rw [if_neg (by rw [e1]; exact h0)]
    have e3 : outB l n0 = [] := by unfold outB; rw [if_neg (by rw [e1]; exact h0)]
    rw [e1, e2, e3]
    obtain ⟨C, hCe⟩ : ∃ C, checkS l = C := ⟨_, rfl⟩
    obtain ⟨Y, hY⟩ : ∃ C, cyclesS l = C := ⟨_, rfl⟩
    rw [hCe, hY] at hC
    rw [hCe] at h0 ⊢
    rw [hn'] at hC ⊢
    have q : (C != 0) = true := by simpa using h0
    clear h0 e1 e2 e3 hCe hY hn hn'
    go_enter Tryd.func22, Tryd.ntmps22
    go_wp2_with (go_at_call 15; refine hC.mono ?_; rintro e x ⟨rfl, hx⟩; replace hx := hx.symm; subst hx)
    go_ret3
    exact ⟨_, _, rfl, C0⟩
  replace h0 : checkS l = 0 := Decidable.of_not_not h0
  obtain ⟨k1, k2, k3⟩ := check_ok h0
  have hP := k2.pos
  have hS0 := sumC_nonneg hP
  rw [h0, show cyclesS l = sumC l by unfold cyclesS; rw [if_pos h0]] at hC
  by_cases hb : n0 < 0 ∨ sumC l < n0
  · have e1 : cutE l n0 = 1 := by unfold cutE; rw [if_neg (by simpa using h0), if_pos hb]
    have e2 : outA l n0 = [] := by unfold outA; rw [if_neg (by rw [e1]; decide)]
    have e3 : outB l n0 = [] := by unfold outB; rw [if_neg (by rw [e1]; decide)]
    rw [e1, e2, e3]
    obtain ⟨Y, hY⟩ : ∃ C, sumC l = C := ⟨_, rfl⟩
    rw [hY] at hC hb
    rw [hn'] at hC ⊢
    by_cases h1 : n0 < 0
    · have q1 : decide (n0 < 0) = true := by simpa using h1
      clear h0 e1 e2 e3 hY hn hn' k1 k2 k3 hP hS0 hb h1
      go_enter Tryd.func22, Tryd.ntmps22
      go_wp2_with (go_at_call 15; refine hC.mono ?_; rintro e x ⟨rfl, hx⟩; replace hx := hx.symm; subst hx)
      go_ret3
      exact ⟨_, _, rfl, C0⟩
    · have q1 : decide (n0 < 0) = false := by simpa using h1
      have q2 : decide (Y < n0) = true := by simp; omega
      clear h0 e1 e2 e3 hY hn hn' k1 k2 k3 hP hS0 hb h1
      go_enter Tryd.func22, Tryd.ntmps22
      go_wp2_with (go_at_call 15; refine hC.mono ?_; rintro e x ⟨rfl, hx⟩; replace hx := hx.symm; subst hx)
      go_ret3
      exact ⟨_, _, rfl, C0⟩
  have e1 : cutE l n0 = 0 := by unfold cutE; rw [if_neg (by simpa using h0), if_neg hb]
  have e2 : outA l n0 = cutA l n0 := by unfold outA; rw [if_pos e1]
  have e3 : outB l n0 = cutB l n0 := by unfold outB; rw [if_pos e1]
  rw [e1, e2, e3]
  obtain ⟨Y, hY⟩ : ∃ C, sumC l = C := ⟨_, rfl⟩
  rw [hY] at hC hb k3 hS0
  rw [hn'] at hC ⊢
  have q1 : decide (n0 < 0) = false := by simp; omega
  have q2 : decide (Y < n0) = false := by simp; omega
  have r0 : 0 ≤ n0 := by omega
  have r1 : n0 ≤ 4194304 := by omega
  obtain ⟨CA, hCA⟩ : ∃ x, cutA l n0 = x := ⟨_, rfl⟩
  obtain ⟨CB, hCB⟩ : ∃ x, cutB l n0 = x := ⟨_, rfl⟩
  have hCA' : Hid (cutA l n0 = CA) := hCA
  have hCB' : Hid (cutB l n0 = CB) := hCB
  rw [hCA, hCB]
  have hl' : Hid (l.length = n) := hn'
  have hn4 : Hid (n ≤ 4096) := by show n ≤ 4096; omega
  have hIn : Hid (InM 1048576 l) := k2
  have ni4 : (n : Int) ≤ 4096 := by omega
  have zz := zeroVS
  obtain ⟨Z, hZ⟩ : ∃ Z, (⟨0, ⟨0, false, false, false, false, false, false, false, 0⟩⟩ : Sn) = Z := ⟨_, rfl⟩
  rw [hZ] at zz
  clear h0 e1 e2 e3 hY hn hn' k1 k2 k3 hP hS0 hb hCA hCB ni hZ
  go_enter Tryd.func22, Tryd.ntmps22
  go_wp2_with (go_at_call 15; refine hC.mono ?_; rintro e x ⟨rfl, hx⟩; replace hx := hx.symm; subst hx)
  go_loopw [1, 9, 10, 11] (fun t a b i wz => ∃ (j : Nat) (r : Int) (va vb : Value) (A Bl : List Sn) (y : World), y = wz ∧ t = .int .i64 r ∧ va = a ∧ vb = b ∧ i = .int .i64 (j : Int) ∧ 0 ≤ r ∧ r ≤ 4194304 ∧ Hid (j ≤ n ∧ CA = A ++ cutA (l.drop j) r ∧ CB = Bl ++ cutB (l.drop j) r) ∧ Hid (A.length ≤ j) ∧ Hid (Bl.length ≤ j) ∧ Hid (Ct w va vb A Bl [] y)) (fun _ _ _ i _ => (n - intOf i).toNat)
  case atStart => exact ⟨0, n0, _, _, [], [], w, rfl, rfl, rfl, rfl, rfl, r0, r1, ⟨by omega, hCA'.out.symm, hCB'.out.symm⟩, Nat.le_refl _, Nat.le_refl _, C0⟩
  case round =>
    obtain ⟨j, r, va, vb, A, Bl, y, rfl, rfl, rfl, rfl, rfl, s0, s1, J, hAl, hBl, K⟩ := hrel
    clear C0 hC r0 r1 q1 q2
    by_cases hlt : j < n
    · obtain ⟨s, hs, hdrop⟩ := at_list hl'.out hlt
      obtain ⟨gb, ob, rfl, hR⟩ := hl.out j s hs
      obtain ⟨c, sa⟩ := s
      have hR : Hid (w.rangeAt gb (ob + j * 10) (spC ⟨c, sa⟩).toList) := hR
      have ij := fun v => idxP (g := gb) (off := ob) (len := n) (cap := cap) Tryd.underlying23 (s := 10) (by kernel_rfl) .i64 j v hlt
      have hd := drop_in hIn.out j
      rw [hdrop] at hd
      have c1 : 1 ≤ c := hd.1.1
      have c2 : c ≤ 1048576 := hd.1.2
      have hji : (j : Int) < n := by omega
      have hlt' : Hid (j < n) := hlt
      have J2 : Hid (CA = A ++ ((if 0 < min r c then [⟨min r c, sa⟩] else []) ++ cutA (l.drop (j + 1)) (r - min r c)) ∧ CB = Bl ++ ((if min r c < c then [⟨c - min r c, sa⟩] else []) ++ cutB (l.drop (j + 1)) (r - min r c))) := by
        obtain ⟨_, h1, h2⟩ := J.out
        rw [hdrop] at h1 h2
        exact ⟨h1, h2⟩
      replace hs : Hid _ := hs
      replace hdrop : Hid _ := hdrop
      clear hd hlt
      rcases Int.lt_trichotomy c r with hc | hc | hc
      · have fin : Hid (CA = (A ++ [⟨c, sa⟩]) ++ cutA (l.drop (j + 1)) (r - c) ∧ CB = Bl ++ cutB (l.drop (j + 1)) (r - c)) := by
          obtain ⟨h1, h2⟩ := J2.out
          rw [show min r c = c by omega, if_pos (by omega)] at h1
          rw [show min r c = c by omega, if_neg (by omega)] at h2
          exact ⟨by rw [h1, List.append_assoc], h2⟩
        have qp : decide (0 < c) = true := by simp; omega
        have qc : decide (c < c) = false := by simp
        clear J2 c2
        go_wp2_with (first
            | ((with_reducible refine at_loadm rtS gb (ob + j * 10) (spC ⟨c, sa⟩) ?_ ?_ (.tmp 38) ?_ ?_ ?_ ?_); exact range_keep hR.out K.out.fm.low; rfl; kernel_rfl; rfl; rfl)
            | ((with_reducible refine gen_world (y.alloc (.cells (spC Z) 34)) (Ct w va vb A Bl [(y.heap.size, spC Z, 34)]) ?_ ?_); exact K.out.new _ _; intro y1 K1)
            | ((with_reducible refine at_st rtS y.heap.size (spC Z) (spC ⟨c, sa⟩) ?_ ?_ ?_ ?_ (.tmp 12) (.tmp 39) ?_ ?_ ?_ ?_ ?_); exact K1.out.fm.bx 0 _ _ _ rfl; rfl; rfl; exact spC_one _; rfl; rfl; rfl; rfl; intro y2 hw2; have K2 : Hid (Ct w va vb A Bl [(y.heap.size, spC ⟨c, sa⟩, 34)] y2) := K1.out.put 0 _ _ _ _ rfl hw2.out; have d2 := (K2.out.fm.bx 0 _ _ _ rfl).c 0 _ (spC_c ⟨c, sa⟩); dsimp only at d2; have z2 := (K2.out.fm.bx 0 _ _ _ rfl).fz 0; refine stopAt ?_))
        refine Stop.go ?_
        go_wp2_with (first
            | ((with_reducible refine at_load rtS y.heap.size (spC ⟨c, sa⟩) ?_ ?_ (.tmp 12) ?_ ?_ ?_ ?_); exact K2.out.fm.bx 0 _ _ _ rfl; rfl; kernel_rfl; rfl; rfl)
            | ((with_reducible refine gen_world (y2.alloc (.cells (spC Z) 34)) (Ct w va vb A Bl [(y.heap.size, spC ⟨c, sa⟩, 34), (y2.heap.size, spC Z, 34)]) ?_ ?_); exact K2.out.new _ _; intro y3 K3)
            | ((with_reducible refine at_st rtS y2.heap.size (spC Z) (spC ⟨c, sa⟩) ?_ ?_ ?_ ?_ (.tmp 14) (.tmp 49) ?_ ?_ ?_ ?_ ?_); exact K3.out.fm.bx 1 _ _ _ rfl; rfl; rfl; exact spC_one _; rfl; rfl; rfl; rfl; intro y4 hw4; have K4 : Hid (Ct w va vb A Bl [(y.heap.size, spC ⟨c, sa⟩, 34), (y2.heap.size, spC ⟨c, sa⟩, 34)] y4) := K3.out.put 1 _ _ _ _ rfl hw4.out; have d4 := (K4.out.fm.bx 1 _ _ _ rfl).c 0 _ (spC_c ⟨c, sa⟩); dsimp only at d4; have z4 := (K4.out.fm.bx 1 _ _ _ rfl).fz 0)
            | ((with_reducible refine gen_world (y4.setCell ⟨y2.heap.size, 0, none⟩ (.int .i64 c)) (Ct w va vb A Bl [(y.heap.size, spC ⟨c, sa⟩, 34), (y2.heap.size, spC ⟨c, sa⟩, 34)]) ?_ ?_); exact K4.out.setCell 1 _ _ _ _ rfl 0 _ rfl; intro y5 K5)
            | ((with_reducible refine at_load rtS y2.heap.size (spC ⟨c, sa⟩) ?_ ?_ (.tmp 14) ?_ ?_ ?_ ?_); exact K5.out.fm.bx 1 _ _ _ rfl; rfl; kernel_rfl; rfl; rfl)
            | ((with_reducible refine at_bsS ⟨c, sa⟩ (.tmp 53) ?_ ?_ ?_ ?_); rfl; rfl; rfl)
            | (at_builtin; refine at_app rfl (.tmp 52) (.tmp 54) rfl w.heap.size va A rfl (K5.out.oa.alloc _) y5.heap.size ⟨c, sa⟩ rfl (one_bx _ _ _) ?_ ?_ ?_; (have := hAl.out; have := hlt'.out; have := hn4.out; omega); (have := K5.out.fm.low.size; simp; omega); intro va' x7 H7; have K7 : Hid (Ct w va' vb (A ++ [⟨c, sa⟩]) Bl [(y.heap.size, spC ⟨c, sa⟩, 34)] x7) := (K5.out.appA H7.out).pre (bs := [(y.heap.size, spC ⟨c, sa⟩, 34)]); have d7 := (K7.out.fm.bx 0 _ _ _ rfl).c 0 _ (spC_c ⟨c, sa⟩); dsimp only at d7; have z7 := (K7.out.fm.bx 0 _ _ _ rfl).fz 0; clear H7))
        go_roundw
        case rel => exact ⟨j + 1, r - c, va', vb, A ++ [⟨c, sa⟩], Bl, _, rfl, rfl, rfl, rfl, by simp, by omega, by omega, ⟨by have := hlt'.out; omega, fin.out.1, fin.out.2⟩, (by show (A ++ [_]).length ≤ j + 1; have := hAl.out; simp; omega), (by show Bl.length ≤ j + 1; have := hBl.out; omega), (by exact K7.out.pre (bs := []))⟩
        case measure => have := hlt'.out; simp [intOf]; omega
      · subst hc
        have fin : Hid (CA = (A ++ [⟨c, sa⟩]) ++ cutA (l.drop (j + 1)) 0 ∧ CB = Bl ++ cutB (l.drop (j + 1)) 0) := by
          obtain ⟨h1, h2⟩ := J2.out
          rw [show min c c = c by omega, if_pos (by omega), Int.sub_self] at h1
          rw [show min c c = c by omega, if_neg (by omega), Int.sub_self] at h2
          exact ⟨by rw [h1, List.append_assoc], h2⟩
        have qp : decide (0 < c) = true := by simp; omega
        have qc : decide (c < c) = false := by simp
        clear J2
        go_wp2_with (first
            | ((with_reducible refine at_loadm rtS gb (ob + j * 10) (spC ⟨c, sa⟩) ?_ ?_ (.tmp 38) ?_ ?_ ?_ ?_); exact range_keep hR.out K.out.fm.low; rfl; kernel_rfl; rfl; rfl)
            | ((with_reducible refine gen_world (y.alloc (.cells (spC Z) 34)) (Ct w va vb A Bl [(y.heap.size, spC Z, 34)]) ?_ ?_); exact K.out.new _ _; intro y1 K1)
            | ((with_reducible refine at_st rtS y.heap.size (spC Z) (spC ⟨c, sa⟩) ?_ ?_ ?_ ?_ (.tmp 12) (.tmp 39) ?_ ?_ ?_ ?_ ?_); exact K1.out.fm.bx 0 _ _ _ rfl; rfl; rfl; exact spC_one _; rfl; rfl; rfl; rfl; intro y2 hw2; have K2 : Hid (Ct w va vb A Bl [(y.heap.size, spC ⟨c, sa⟩, 34)] y2) := K1.out.put 0 _ _ _ _ rfl hw2.out; have d2 := (K2.out.fm.bx 0 _ _ _ rfl).c 0 _ (spC_c ⟨c, sa⟩); dsimp only at d2; have z2 := (K2.out.fm.bx 0 _ _ _ rfl).fz 0; refine stopAt ?_))
        refine Stop.go ?_
        go_wp2_with (first
            | ((with_reducible refine at_load rtS y.heap.size (spC ⟨c, sa⟩) ?_ ?_ (.tmp 12) ?_ ?_ ?_ ?_); exact K2.out.fm.bx 0 _ _ _ rfl; rfl; kernel_rfl; rfl; rfl)
            | ((with_reducible refine gen_world (y2.alloc (.cells (spC Z) 34)) (Ct w va vb A Bl [(y.heap.size, spC ⟨c, sa⟩, 34), (y2.heap.size, spC Z, 34)]) ?_ ?_); exact K2.out.new _ _; intro y3 K3)
            | ((with_reducible refine at_st rtS y2.heap.size (spC Z) (spC ⟨c, sa⟩) ?_ ?_ ?_ ?_ (.tmp 14) (.tmp 49) ?_ ?_ ?_ ?_ ?_); exact K3.out.fm.bx 1 _ _ _ rfl; rfl; rfl; exact spC_one _; rfl; rfl; rfl; rfl; intro y4 hw4; have K4 : Hid (Ct w va vb A Bl [(y.heap.size, spC ⟨c, sa⟩, 34), (y2.heap.size, spC ⟨c, sa⟩, 34)] y4) := K3.out.put 1 _ _ _ _ rfl hw4.out; have d4 := (K4.out.fm.bx 1 _ _ _ rfl).c 0 _ (spC_c ⟨c, sa⟩); dsimp only at d4; have z4 := (K4.out.fm.bx 1 _ _ _ rfl).fz 0)
            | ((with_reducible refine gen_world (y4.setCell ⟨y2.heap.size, 0, none⟩ (.int .i64 c)) (Ct w va vb A Bl [(y.heap.size, spC ⟨c, sa⟩, 34), (y2.heap.size, spC ⟨c, sa⟩, 34)]) ?_ ?_); exact K4.out.setCell 1 _ _ _ _ rfl 0 _ rfl; intro y5 K5)
            | ((with_reducible refine at_load rtS y2.heap.size (spC ⟨c, sa⟩) ?_ ?_ (.tmp 14) ?_ ?_ ?_ ?_); exact K5.out.fm.bx 1 _ _ _ rfl; rfl; kernel_rfl; rfl; rfl)
            | ((with_reducible refine at_bsS ⟨c, sa⟩ (.tmp 53) ?_ ?_ ?_ ?_); rfl; rfl; rfl)
            | (at_builtin; refine at_app rfl (.tmp 52) (.tmp 54) rfl w.heap.size va A rfl (K5.out.oa.alloc _) y5.heap.size ⟨c, sa⟩ rfl (one_bx _ _ _) ?_ ?_ ?_; (have := hAl.out; have := hlt'.out; have := hn4.out; omega); (have := K5.out.fm.low.size; simp; omega); intro va' x7 H7; have K7 : Hid (Ct w va' vb (A ++ [⟨c, sa⟩]) Bl [(y.heap.size, spC ⟨c, sa⟩, 34)] x7) := (K5.out.appA H7.out).pre (bs := [(y.heap.size, spC ⟨c, sa⟩, 34)]); have d7 := (K7.out.fm.bx 0 _ _ _ rfl).c 0 _ (spC_c ⟨c, sa⟩); dsimp only at d7; have z7 := (K7.out.fm.bx 0 _ _ _ rfl).fz 0; clear H7))
        go_roundw
        case rel => exact ⟨j + 1, 0, va', vb, A ++ [⟨c, sa⟩], Bl, _, rfl, rfl, rfl, rfl, by simp, by decide, by decide, ⟨by have := hlt'.out; omega, fin.out.1, fin.out.2⟩, (by show (A ++ [_]).length ≤ j + 1; have := hAl.out; simp; omega), (by show Bl.length ≤ j + 1; have := hBl.out; omega), (by exact K7.out.pre (bs := []))⟩
        case measure => have := hlt'.out; simp [intOf]; omega
      · by_cases hz : r = 0
        · subst hz
          have fin : Hid (CA = A ++ cutA (l.drop (j + 1)) 0 ∧ CB = (Bl ++ [⟨c, sa⟩]) ++ cutB (l.drop (j + 1)) 0) := by
            obtain ⟨h1, h2⟩ := J2.out
            rw [show min 0 c = 0 by omega, if_neg (by omega), Int.sub_zero] at h1
            rw [show min 0 c = 0 by omega, if_pos (by omega), Int.sub_zero, Int.sub_zero] at h2
            exact ⟨h1, by rw [h2, List.append_assoc]⟩
          have q0 : decide ((0 : Int) < 0) = false := by decide
          have qc : decide (0 < c) = true := by simp; omega
          clear J2
          go_wp2_with (first
              | ((with_reducible refine at_loadm rtS gb (ob + j * 10) (spC ⟨c, sa⟩) ?_ ?_ (.tmp 38) ?_ ?_ ?_ ?_); exact range_keep hR.out K.out.fm.low; rfl; kernel_rfl; rfl; rfl)
              | ((with_reducible refine gen_world (y.alloc (.cells (spC Z) 34)) (Ct w va vb A Bl [(y.heap.size, spC Z, 34)]) ?_ ?_); exact K.out.new _ _; intro y1 K1)
              | ((with_reducible refine at_st rtS y.heap.size (spC Z) (spC ⟨c, sa⟩) ?_ ?_ ?_ ?_ (.tmp 12) (.tmp 39) ?_ ?_ ?_ ?_ ?_); exact K1.out.fm.bx 0 _ _ _ rfl; rfl; rfl; exact spC_one _; rfl; rfl; rfl; rfl; intro y2 hw2; have K2 : Hid (Ct w va vb A Bl [(y.heap.size, spC ⟨c, sa⟩, 34)] y2) := K1.out.put 0 _ _ _ _ rfl hw2.out; have d2 := (K2.out.fm.bx 0 _ _ _ rfl).c 0 _ (spC_c ⟨c, sa⟩); dsimp only at d2; have z2 := (K2.out.fm.bx 0 _ _ _ rfl).fz 0; refine stopAt ?_))
          refine Stop.go ?_
          go_wp2_with (first
              | ((with_reducible refine gen_world (y2.setCell ⟨y.heap.size, 0, none⟩ (.int .i64 (c))) (Ct w va vb A Bl [(y.heap.size, spC ⟨c, sa⟩, 34)]) ?_ ?_); exact K2.out.setCell 0 _ _ _ _ rfl 0 _ rfl; intro y8 K8)
              | ((with_reducible refine at_load rtS y.heap.size (spC ⟨c, sa⟩) ?_ ?_ (.tmp 12) ?_ ?_ ?_ ?_); exact K8.out.fm.bx 0 _ _ _ rfl; rfl; kernel_rfl; rfl; rfl)
              | ((with_reducible refine at_bsS ⟨c, sa⟩ (.tmp 66) ?_ ?_ ?_ ?_); rfl; rfl; rfl)
              | (at_builtin; refine at_app rfl (.tmp 65) (.tmp 67) rfl w.heap.size vb Bl rfl (K8.out.ob.alloc _) y8.heap.size ⟨c, sa⟩ rfl (one_bx _ _ _) ?_ ?_ ?_; (have := hBl.out; have := hlt'.out; have := hn4.out; omega); (have := K8.out.fm.low.size; simp; omega); intro vb' x9 H9; have K9 : Hid (Ct w va vb' A (Bl ++ [⟨c, sa⟩]) [] x9) := (K8.out.appB H9.out).pre (bs := []); clear H9))
          go_roundw
          case rel => exact ⟨j + 1, 0, va, vb', A, Bl ++ [⟨c, sa⟩], _, rfl, rfl, rfl, rfl, by simp, by decide, by decide, ⟨by have := hlt'.out; omega, fin.out.1, fin.out.2⟩, (by show A.length ≤ j + 1; have := hAl.out; omega), (by show (Bl ++ [_]).length ≤ j + 1; have := hBl.out; simp; omega), K9⟩
          case measure => have := hlt'.out; simp [intOf]; omega
        · have fin : Hid (CA = (A ++ [⟨r, sa⟩]) ++ cutA (l.drop (j + 1)) 0 ∧ CB = (Bl ++ [⟨c - r, sa⟩]) ++ cutB (l.drop (j + 1)) 0) := by
            obtain ⟨h1, h2⟩ := J2.out
            rw [show min r c = r by omega, if_pos (by omega), Int.sub_self] at h1
            rw [show min r c = r by omega, if_pos (by omega), Int.sub_self] at h2
            exact ⟨by rw [h1, List.append_assoc], by rw [h2, List.append_assoc]⟩
          have qp : decide (0 < r) = true := by simp; omega
          have qc : decide (r < c) = true := by simpa using hc
          have qd : ¬ c < r := by omega
          clear J2
          go_wp2_with (first
              | ((with_reducible refine at_loadm rtS gb (ob + j * 10) (spC ⟨c, sa⟩) ?_ ?_ (.tmp 38) ?_ ?_ ?_ ?_); exact range_keep hR.out K.out.fm.low; rfl; kernel_rfl; rfl; rfl)
              | ((with_reducible refine gen_world (y.alloc (.cells (spC Z) 34)) (Ct w va vb A Bl [(y.heap.size, spC Z, 34)]) ?_ ?_); exact K.out.new _ _; intro y1 K1)
              | ((with_reducible refine at_st rtS y.heap.size (spC Z) (spC ⟨c, sa⟩) ?_ ?_ ?_ ?_ (.tmp 12) (.tmp 39) ?_ ?_ ?_ ?_ ?_); exact K1.out.fm.bx 0 _ _ _ rfl; rfl; rfl; exact spC_one _; rfl; rfl; rfl; rfl; intro y2 hw2; have K2 : Hid (Ct w va vb A Bl [(y.heap.size, spC ⟨c, sa⟩, 34)] y2) := K1.out.put 0 _ _ _ _ rfl hw2.out; have d2 := (K2.out.fm.bx 0 _ _ _ rfl).c 0 _ (spC_c ⟨c, sa⟩); dsimp only at d2; have z2 := (K2.out.fm.bx 0 _ _ _ rfl).fz 0; refine stopAt ?_))
          refine Stop.go ?_
          go_wp2_with (first
              | ((with_reducible refine at_load rtS y.heap.size (spC ⟨c, sa⟩) ?_ ?_ (.tmp 12) ?_ ?_ ?_ ?_); exact K2.out.fm.bx 0 _ _ _ rfl; rfl; kernel_rfl; rfl; rfl)
              | ((with_reducible refine gen_world (y2.alloc (.cells (spC Z) 34)) (Ct w va vb A Bl [(y.heap.size, spC ⟨c, sa⟩, 34), (y2.heap.size, spC Z, 34)]) ?_ ?_); exact K2.out.new _ _; intro y3 K3)
              | ((with_reducible refine at_st rtS y2.heap.size (spC Z) (spC ⟨c, sa⟩) ?_ ?_ ?_ ?_ (.tmp 14) (.tmp 49) ?_ ?_ ?_ ?_ ?_); exact K3.out.fm.bx 1 _ _ _ rfl; rfl; rfl; exact spC_one _; rfl; rfl; rfl; rfl; intro y4 hw4; have K4 : Hid (Ct w va vb A Bl [(y.heap.size, spC ⟨c, sa⟩, 34), (y2.heap.size, spC ⟨c, sa⟩, 34)] y4) := K3.out.put 1 _ _ _ _ rfl hw4.out; have d4 := (K4.out.fm.bx 1 _ _ _ rfl).c 0 _ (spC_c ⟨c, sa⟩); dsimp only at d4; have z4 := (K4.out.fm.bx 1 _ _ _ rfl).fz 0)
              | ((with_reducible refine gen_world (y4.setCell ⟨y2.heap.size, 0, none⟩ (.int .i64 r)) (Ct w va vb A Bl [(y.heap.size, spC ⟨c, sa⟩, 34), (y2.heap.size, spC ⟨r, sa⟩, 34)]) ?_ ?_); exact K4.out.setCell 1 _ _ _ _ rfl 0 _ rfl; intro y5 K5)
              | ((with_reducible refine at_load rtS y2.heap.size (spC ⟨r, sa⟩) ?_ ?_ (.tmp 14) ?_ ?_ ?_ ?_); exact K5.out.fm.bx 1 _ _ _ rfl; rfl; kernel_rfl; rfl; rfl)
              | ((with_reducible refine at_bsS ⟨r, sa⟩ (.tmp 53) ?_ ?_ ?_ ?_); rfl; rfl; rfl)
              | (at_builtin; refine at_app rfl (.tmp 52) (.tmp 54) rfl w.heap.size va A rfl (K5.out.oa.alloc _) y5.heap.size ⟨r, sa⟩ rfl (one_bx _ _ _) ?_ ?_ ?_; (have := hAl.out; have := hlt'.out; have := hn4.out; omega); (have := K5.out.fm.low.size; simp; omega); intro va' x7 H7; have K7 : Hid (Ct w va' vb (A ++ [⟨r, sa⟩]) Bl [(y.heap.size, spC ⟨c, sa⟩, 34)] x7) := (K5.out.appA H7.out).pre (bs := [(y.heap.size, spC ⟨c, sa⟩, 34)]); have d7 := (K7.out.fm.bx 0 _ _ _ rfl).c 0 _ (spC_c ⟨c, sa⟩); dsimp only at d7; have z7 := (K7.out.fm.bx 0 _ _ _ rfl).fz 0; clear H7)
              | ((with_reducible refine gen_world (x7.setCell ⟨y.heap.size, 0, none⟩ (.int .i64 (c - r))) (Ct w va' vb (A ++ [⟨r, sa⟩]) Bl [(y.heap.size, spC ⟨c - r, sa⟩, 34)]) ?_ ?_); exact K7.out.setCell 0 _ _ _ _ rfl 0 _ rfl; intro y8 K8)
              | ((with_reducible refine at_load rtS y.heap.size (spC ⟨c - r, sa⟩) ?_ ?_ (.tmp 12) ?_ ?_ ?_ ?_); exact K8.out.fm.bx 0 _ _ _ rfl; rfl; kernel_rfl; rfl; rfl)
              | ((with_reducible refine at_bsS ⟨c - r, sa⟩ (.tmp 66) ?_ ?_ ?_ ?_); rfl; rfl; rfl)
              | (at_builtin; refine at_app rfl (.tmp 65) (.tmp 67) rfl w.heap.size vb Bl rfl (K8.out.ob.alloc _) y8.heap.size ⟨c - r, sa⟩ rfl (one_bx _ _ _) ?_ ?_ ?_; (have := hBl.out; have := hlt'.out; have := hn4.out; omega); (have := K8.out.fm.low.size; simp; omega); intro vb' x9 H9; have K9 : Hid (Ct w va' vb' (A ++ [⟨r, sa⟩]) (Bl ++ [⟨c - r, sa⟩]) [] x9) := (K8.out.appB H9.out).pre (bs := []); clear H9))
          go_roundw
          case rel => exact ⟨j + 1, 0, va', vb', A ++ [⟨r, sa⟩], Bl ++ [⟨c - r, sa⟩], _, rfl, rfl, rfl, rfl, by simp, by decide, by decide, ⟨by have := hlt'.out; omega, fin.out.1, fin.out.2⟩, (by show (A ++ [_]).length ≤ j + 1; have := hAl.out; simp; omega), (by show (Bl ++ [_]).length ≤ j + 1; have := hBl.out; simp; omega), K9⟩
          case measure => have := hlt'.out; simp [intOf]; omega
    · have hje : j = n := by have := J.out.1; omega
      subst hje
      have fin : Hid (CA = A ∧ CB = Bl) := by
        obtain ⟨_, h1, h2⟩ := J.out
        rw [List.drop_eq_nil_of_le (by rw [hl'.out]; exact Nat.le_refl _)] at h1 h2
        exact ⟨by rw [h1]; simp [cutA], by rw [h2]; simp [cutB]⟩
      clear hlt
      go_wp2
      go_ret3
      exact ⟨_, _, rfl, by rw [fin.out.1, fin.out.2]; exact K⟩
end Go.Proofs.YthpahpfnpapoiaaDoor
