/- ScriptSame's walk. -/
import Derived.Test.YthpahpfnpapoiabDoorZi
import Derived.Test.YthpahpfnpapoiabDoorXz
import Derived.Deep.DeepCutAuto
namespace Go.Proofs.YthpahpfnpapoiabDoor
open Go Go.RowKit
set_option linter.unusedVariables false
set_option maxHeartbeats 2000000
set_option maxRecDepth 20000

theorem mask_range (x : Int) : 0 ≤ bits .and .i64 x 1099511627775 ∧ bits .and .i64 x 1099511627775 ≤ 1099511627775 := by
  have h : (BitVec.ofInt 64 x &&& BitVec.ofInt 64 1099511627775).toNat ≤ 1099511627775 := by
    rw [BitVec.toNat_and]
    exact Nat.le_trans Nat.and_le_right (by decide)
  have e : bits .and .i64 x 1099511627775 = IntKind.wrap .i64 ((BitVec.ofInt 64 x &&& BitVec.ofInt 64 1099511627775).toNat : Int) := rfl
  rw [e]
  generalize (BitVec.ofInt 64 x &&& BitVec.ofInt 64 1099511627775).toNat = v at h ⊢
  have e2 : IntKind.wrap .i64 (v : Int) = v := by
    simp [IntKind.wrap, IntKind.bits, IntKind.signed]
    omega
  rw [e2]
  omega
theorem same_walk (w : World) (tb : Hid (Tp w)) (sp : Option Addr) (cap : Nat) (l : List Sn) (hl : Hid (LiesS w sp l)) (hn : l.length ≤ 9223372036854775807) (n0 : Int) (hn0 : -9223372036854775808 ≤ n0 ∧ n0 ≤ 9223372036854775807) (sp2 : Option Addr) (cap2 : Nat) (r : List Sn) (hl2 : Hid (LiesS w sp2 r)) (hn2 : r.length ≤ 9223372036854775807) :
    Calls Tryd.prog 5 #[.slice sp l.length cap, .int .i64 n0, .slice sp2 r.length cap2] w fun e w' => e = .returned (.bool true) ∧ Below w.heap.size w w' := by
  obtain ⟨n, hn'⟩ : ∃ n, l.length = n := ⟨_, rfl⟩
  obtain ⟨m, hm'⟩ : ∃ m, r.length = m := ⟨_, rfl⟩
  have ni : (n : Int) ≤ 9223372036854775807 := by omega
  have mi : (m : Int) ≤ 9223372036854775807 := by omega
  by_cases hb1 : 2147483647 < n
  · rw [hn', hm']
    have q : decide ((2147483647 : Int) < n) = true := by simp; omega
    clear hb1 hn hn' hm' hn2
    go_enter Tryd.func5, Tryd.ntmps5
    go_wp2
    go_ret
    exact ⟨rfl, Below.refl _ _⟩
  by_cases hb2 : 2147483647 < m
  · rw [hn', hm']
    have q : decide ((2147483647 : Int) < n) = false := by simp; omega
    have q2 : decide ((2147483647 : Int) < m) = true := by simp; omega
    clear hb1 hb2 hn hn' hm' hn2
    go_enter Tryd.func5, Tryd.ntmps5
    go_wp2
    go_ret
    exact ⟨rfl, Below.refl _ _⟩
  have q : decide ((2147483647 : Int) < n) = false := by simp; omega
  have q2 : decide ((2147483647 : Int) < m) = false := by simp; omega
  have hCy := cycles_any w sp cap l hl (by omega)
  rw [hn'] at hCy
  have hW := awake_any
  by_cases h0 : ¬ checkS l = 0
  · rw [hn', hm']
    obtain ⟨E, hE⟩ : ∃ x, checkS l = x := ⟨_, rfl⟩
    obtain ⟨C, hC⟩ : ∃ x, cyclesS l = x := ⟨_, rfl⟩
    rw [hE, hC] at hCy
    rw [hE] at h0
    have qE : (E != 0) = true := by simpa using h0
    clear hb1 hb2 hn hn' hm' hn2 h0 hE hC
    go_enter Tryd.func5, Tryd.ntmps5
    go_wp2_with (first
      | (go_at_call 13; refine hCy.mono ?_; rintro e1 y1 ⟨rfl, B1⟩; refine stopAt ?_))
    refine Stop.go ?_
    go_wp2_with (first
      | (go_at_call 9; refine (hW _ (tb.out.below B1)).mono ?_; rintro e9 y9 ⟨rfl, H9⟩))
    go_ret
    exact ⟨rfl, B1.trans (H9.mono B1.size)⟩
  replace h0 : checkS l = 0 := Decidable.of_not_not h0
  have hcs : cyclesS l = sumC l := by unfold cyclesS; rw [if_pos h0]
  obtain ⟨k1, k2, k3⟩ := check_ok h0
  have hC0 := sumC_nonneg k2.pos
  rw [h0, hcs] at hCy
  obtain ⟨C, hC⟩ : ∃ x, sumC l = x := ⟨_, rfl⟩
  rw [hC] at hCy hC0 k3
  have hin : Hid (checkS l = 0 ∧ sumC l = C ∧ l.length = n ∧ r.length = m ∧ InM 1048576 l) := ⟨h0, hC, hn', hm', k2⟩
  have n4 : (n : Int) ≤ 4096 := by omega
  have m4 : (m : Int) ≤ 2147483647 := by omega
  rw [hn', hm']
  have c1 : C ≤ 4194304 := k3
  clear hb1 hb2 hn hn' hm' hn2 h0 hcs k1 k2 k3 hC ni mi
  go_enter Tryd.func5, Tryd.ntmps5
  by_cases ha : n0 < 0
  · have qa : decide (n0 < 0) = true := by simpa using ha
    go_wp2_with (first
      | (go_at_call 13; refine hCy.mono ?_; rintro e1 y1 ⟨rfl, B1⟩; replace B1 : Hid _ := B1)
      | (go_at_call 14; refine stopAt ?_))
    refine Stop.go ?_
    have hm0 := mask_range n0
    have r0 : 0 ≤ (bits .and .i64 n0 1099511627775).tmod (C + 1) := Int.tmod_nonneg _ hm0.1
    have r1 : (bits .and .i64 n0 1099511627775).tmod (C + 1) < C + 1 := Int.tmod_lt_of_pos _ (by omega)
    obtain ⟨nn, hnn0⟩ : ∃ x, (bits .and .i64 n0 1099511627775).tmod (C + 1) = x := ⟨_, rfl⟩
    rw [hnn0] at r0 r1 ⊢
    have hnn : Hid (0 ≤ nn ∧ nn ≤ C) := ⟨r0, by omega⟩
    clear hnn0 hm0 r0 r1
    have sc := same_cut hin.out.1 nn hnn.out.1 (by have h1 := hin.out.2.1; have h2 := hnn.out.2; omega)
    have hCut := cut_any y1 sp cap l nn (hl.out.below B1.out) (by have := hin.out.2.2.1; omega)
    rw [sc.1, sc.2.1, sc.2.2.1, hin.out.2.2.1] at hCut
    have hAB : Hid (flatB (cutA l nn ++ cutB l nn) l = true ∧ InM 1048576 (cutA l nn ++ cutB l nn) ∧ (cutA l nn).length ≤ n ∧ (cutB l nn).length ≤ n) := ⟨sc.2.2.2.2.2.1, sc.2.2.2.2.2.2, by have := cut_len l nn; have := hin.out.2.2.1; omega, by have := cut_len l nn; have := hin.out.2.2.1; omega⟩
    have hA0 : Hid (checkS (cutA l nn) = 0 ∧ cyclesS (cutA l nn) = nn) := ⟨sc.2.2.2.1, sc.2.2.2.2.1⟩
    clear sc
    obtain ⟨A, hA⟩ : ∃ x, cutA l nn = x := ⟨_, rfl⟩
    obtain ⟨D, hD⟩ : ∃ x, cutB l nn = x := ⟨_, rfl⟩
    rw [hA, hD] at hCut hAB
    rw [hA] at hA0
    clear hA hD
    refine hCut.mono ?_
    rintro e2 y2 ⟨va, vb, rfl, H2⟩
    go_simp
    have B2 : Hid (Below w.heap.size w y2) := B1.out.trans (H2.out.fm.low.mono B1.out.size)
    obtain ⟨s1, c1, rfl, L1, _⟩ := OwnS.open H2.out.oa
    obtain ⟨s2, c2, rfl, _⟩ := OwnS.open H2.out.ob
    have lA : Hid (A.length ≤ 4096 ∧ D.length ≤ 4096) := ⟨by have := hAB.out.2.2.1; omega, by have := hAB.out.2.2.2; omega⟩
    have hCa := cycles_any y2 s1 c1 A L1 (by have := lA.out.1; omega)
    rw [hA0.out.1, hA0.out.2] at hCa
    clear L1
    go_wp2_with (first
      | (go_at_call 13; refine hCa.mono ?_; rintro e3 y3 ⟨rfl, H3⟩; refine stopAt ?_))
    refine Stop.go ?_
    have B3 : Hid (Below w.heap.size w y3) := B2.out.trans (H3.mono B2.out.size)
    have oa3 : Hid (OwnS y1.heap.size y3 (.slice s1 A.length c1) A) := OwnS.below H2.out.oa H3
    have ob3 : Hid (OwnS y1.heap.size y3 (.slice s2 D.length c2) D) := OwnS.below H2.out.ob H3
    clear H2 H3 hCa hA0
    go_wp2_with (first
      | (at_builtin; refine at_appL rfl (.tmp 66) (.tmp 67) rfl y3.heap.size (.slice none 0 0) [] rfl (OwnS.nil _ _) y1.heap.size (.slice s1 A.length c1) A rfl oa3.out ?_ (Nat.le_refl _) ?_; (have := lA.out.1; simp; omega); intro v4 y4 h4 b4; have O4 : Hid (OwnS y3.heap.size y4 v4 A) := h4; have b4' : Hid (Below y3.heap.size y3 y4) := b4; clear h4 b4; refine stopAt ?_))
    refine Stop.go ?_
    have ob4 : Hid (OwnS y1.heap.size y4 (.slice s2 D.length c2) D) := OwnS.below ob3.out b4'.out
    go_wp2_with (first
      | (at_builtin; refine at_appL rfl (.tmp 69) (.tmp 70) rfl y3.heap.size v4 A rfl O4.out y1.heap.size (.slice s2 D.length c2) D rfl ob4.out ?_ b4'.out.size ?_; (have := lA.out; omega); intro v5 y5 h5 b5; have O5 : Hid (OwnS y3.heap.size y5 v5 (A ++ D)) := h5; have b5' : Hid (Below y3.heap.size y4 y5) := b5; clear h5 b5; refine stopAt ?_))
    refine Stop.go ?_
    have B5 : Hid (Below w.heap.size w y5) := B3.out.trans ((b4'.out.trans b5'.out).mono B3.out.size)
    obtain ⟨s5, c5, rfl, L5, _⟩ := OwnS.open O5.out
    have hF := flat_any y5 s5 sp c5 cap (A ++ D) l L5 (hl.out.below B5.out) (by rw [List.length_append]; have := lA.out; omega) (by have := hin.out.2.2.1; omega) hAB.out.2.1 hin.out.2.2.2.2
    rw [hAB.out.1, hin.out.2.2.1] at hF
    obtain ⟨k5, hk5⟩ : ∃ k, (A ++ D).length = k := ⟨_, rfl⟩
    rw [hk5] at hF ⊢
    clear L5 hk5 O5 O4 ob4 oa3 ob3 b4' b5' hAB
    go_wp2_with (first
      | (go_at_call 15; refine hF.mono ?_; rintro e6 y6 ⟨rfl, H6⟩; refine stopAt ?_))
    refine Stop.go ?_
    have B6 : Hid (Below w.heap.size w y6) := B5.out.trans (H6.mono B5.out.size)
    have sn := same_norm hin.out.1
    have hNo := normal_any y6 sp cap l (hl.out.below B6.out) (by have := hin.out.2.2.1; omega)
    rw [hin.out.1, sn.1, hin.out.2.2.1] at hNo
    have hN : Hid (flatB (nrm 1048576 none l) l = true ∧ (nrm 1048576 none l).length ≤ n ∧ InM 1048576 (nrm 1048576 none l) ∧ normS (nrm 1048576 none l) = nrm 1048576 none l ∧ Nf 1048576 (nrm 1048576 none l) ∧ (checkS r = 0 → sameB (normS r) (nrm 1048576 none l) = flatB r l)) := ⟨sn.2.1, by have := hin.out.2.2.1; have := sn.2.2.1; omega, sn.2.2.2.1, sn.2.2.2.2.2.1, sn.2.2.2.2.2.2, fun h => by have := same_two hin.out.1 h; rw [sn.1] at this; exact this⟩
    obtain ⟨N, hNN⟩ : ∃ x, nrm 1048576 none l = x := ⟨_, rfl⟩
    rw [hNN] at hNo hN
    clear sn hNN H6 hF
    go_wp2_with (first
      | (go_at_call 16; refine hNo.mono ?_; rintro e7 y7 ⟨v7, rfl, H7⟩; refine stopAt ?_))
    refine Stop.go ?_
    have B7 : Hid (Below w.heap.size w y7) := B6.out.trans (H7.out.fm.low.mono B6.out.size)
    obtain ⟨s7, c7, rfl, L7, _⟩ := OwnS.open H7.out.oa
    have hF7 := flat_any y7 s7 sp c7 cap N l L7 (hl.out.below B7.out) (by have := hN.out.2.1; omega) (by have := hin.out.2.2.1; omega) hN.out.2.2.1 hin.out.2.2.2.2
    rw [hN.out.1, hin.out.2.2.1] at hF7
    obtain ⟨k, hk7⟩ : ∃ k, N.length = k := ⟨_, rfl⟩
    have hk' : Hid (N.length = k) := hk7
    rw [hk7] at hF7 ⊢
    have qk : ¬ n < k := by have := hN.out.2.1; omega
    have ki : (k : Int) ≤ 4096 := by have := hN.out.2.1; omega
    have L7' : Hid (LiesS y7 s7 N) := L7
    clear L7 hk7 H7 hNo
    go_wp2_with (first
      | (go_at_call 15; refine hF7.mono ?_; rintro e8 y8 ⟨rfl, H8⟩; refine stopAt ?_))
    refine Stop.go ?_
    have B8 : Hid (Below w.heap.size w y8) := B7.out.trans (H8.mono B7.out.size)
    have L8 : Hid (LiesS y8 s7 N) := L7'.out.below H8
    clear H8 L7' hF7
    go_wp2
    go_loopw [17] (fun t wz => ∃ (j : Nat) (y : World), y = wz ∧ t = .int .i64 ((j : Int) + 1) ∧ Hid (j ≤ k) ∧ Hid (Fm y8 [] y)) (fun t _ => (k - intOf t).toNat)
    case atStart => exact ⟨0, _, rfl, rfl, Nat.zero_le _, Fm.nil _⟩
    case round =>
      obtain ⟨j, y, rfl, rfl, Jj, K⟩ := hrel
      by_cases hlt : j + 1 < k
      · obtain ⟨s, hs, _⟩ := at_list hk'.out (show j < k by omega)
        obtain ⟨t, ht, _⟩ := at_list hk'.out hlt
        obtain ⟨gb, ob, hsp, RA⟩ := L8.out j s hs
        obtain ⟨gb', ob', e', RB⟩ := L8.out (j + 1) t ht
        subst hsp
        cases e'
        obtain ⟨c, sa⟩ := s
        obtain ⟨d, sd⟩ := t
        have nx := nf_next hN.out.2.2.2.2.1 j _ _ hs ht
        dsimp only at nx
        have RA : Hid (y8.rangeAt gb (ob + j * 10) (spC ⟨c, sa⟩).toList) := RA
        have RB : Hid (y8.rangeAt gb (ob + (j + 1) * 10) (spC ⟨d, sd⟩).toList) := RB
        have i1 := fun z => idxP (g := gb) (off := ob) (len := k) (cap := c7) Tryd.underlying22 (s := 10) (by kernel_rfl) .i64 j z (show j < k by omega)
        have i2 := fun z => idxP (g := gb) (off := ob) (len := k) (cap := c7) Tryd.underlying22 (s := 10) (by kernel_rfl) .i64 (j + 1) z hlt
        rw [show ((j + 1 : Nat) : Int) = (j : Int) + 1 by omega] at i2
        have hji : (j : Int) + 1 < k := by omega
        have lt' : Hid (j + 1 < k) := hlt
        have zz := zeroV_S
        have hE := eqS ⟨0, sa⟩ ⟨0, sd⟩
        rw [show snB ⟨0, sa⟩ ⟨0, sd⟩ = atB sa sd by simp [snB]] at hE
        obtain ⟨q0, hq⟩ : ∃ q, atB sa sd = q := ⟨_, rfl⟩
        rw [hq] at hE
        replace hE : Hid _ := hE
        replace hs : Hid _ := hs
        replace ht : Hid _ := ht
        clear hlt
        cases q0
        · clear hq nx
          go_wp2_with (first
            | ((with_reducible refine at_loadm rtS gb (ob + j * 10) (spC ⟨c, sa⟩) ?_ ?_ (.tmp 114) ?_ ?_ ?_ ?_); exact range_keep RA.out K.out.low; rfl; kernel_rfl; rfl; rfl)
            | ((with_reducible refine gen_world (y.alloc (.cells (spC ⟨0, zA⟩) 43)) (Fm y8 [(y.heap.size, spC ⟨0, zA⟩, 43)]) ?_ ?_); exact K.out.new _ _; intro z1 K1)
            | ((with_reducible refine at_st rtS y.heap.size (spC ⟨0, zA⟩) (spC ⟨c, sa⟩) ?_ ?_ ?_ ?_ (.tmp 18) (.tmp 115) ?_ ?_ ?_ ?_ ?_); exact K1.out.bx 0 _ _ _ rfl; rfl; rfl; exact spC_one _; rfl; rfl; rfl; rfl; intro z2 hw2; have K2 : Hid (Fm y8 [(y.heap.size, spC ⟨c, sa⟩, 43)] z2) := K1.out.put 0 _ _ _ _ rfl hw2.out; refine stopAt ?_))
          refine Stop.go ?_
          go_wp2_with (first
            | ((with_reducible refine at_loadm rtS gb (ob + (j + 1) * 10) (spC ⟨d, sd⟩) ?_ ?_ (.tmp 118) ?_ ?_ ?_ ?_); exact range_keep RB.out K2.out.low; rfl; kernel_rfl; rfl; rfl)
            | ((with_reducible refine gen_world (z2.alloc (.cells (spC ⟨0, zA⟩) 43)) (Fm y8 [(y.heap.size, spC ⟨c, sa⟩, 43), (z2.heap.size, spC ⟨0, zA⟩, 43)]) ?_ ?_); exact K2.out.new _ _; intro z3 K3)
            | ((with_reducible refine at_st rtS z2.heap.size (spC ⟨0, zA⟩) (spC ⟨d, sd⟩) ?_ ?_ ?_ ?_ (.tmp 19) (.tmp 119) ?_ ?_ ?_ ?_ ?_); exact K3.out.bx 1 _ _ _ rfl; rfl; rfl; exact spC_one _; rfl; rfl; rfl; rfl; intro z4 hw4; have K4 : Hid (Fm y8 [(y.heap.size, spC ⟨c, sa⟩, 43), (z2.heap.size, spC ⟨d, sd⟩, 43)] z4) := K3.out.put 1 _ _ _ _ rfl hw4.out; have e1 := (K4.out.bx 0 _ _ _ rfl).c 0 _ (spC_c ⟨c, sa⟩); have e2 := (K4.out.bx 1 _ _ _ rfl).c 0 _ (spC_c ⟨d, sd⟩); dsimp only at e1 e2; have zz1 := (K4.out.bx 0 _ _ _ rfl).fz 0; refine stopAt ?_))
          refine Stop.go ?_
          go_wp2_with (first
            | ((with_reducible refine gen_world (z4.setCell ⟨y.heap.size, 0, none⟩ (.int .i64 0)) (Fm y8 [(y.heap.size, spC ⟨0, sa⟩, 43), (z2.heap.size, spC ⟨d, sd⟩, 43)]) ?_ ?_); exact K4.out.setCell 0 _ _ _ _ rfl 0 _ rfl; intro z5 K5; have e5 := (K5.out.bx 1 _ _ _ rfl).c 0 _ (spC_c ⟨d, sd⟩); dsimp only at e5; have zz5 := (K5.out.bx 1 _ _ _ rfl).fz 0)
            | ((with_reducible refine gen_world (z5.setCell ⟨z2.heap.size, 0, none⟩ (.int .i64 0)) (Fm y8 [(y.heap.size, spC ⟨0, sa⟩, 43), (z2.heap.size, spC ⟨0, sd⟩, 43)]) ?_ ?_); exact K5.out.setCell 1 _ _ _ _ rfl 0 _ rfl; intro z6 K6; have c6 := rangeC (range_keep RA.out K6.out.low) 0 _ (spC_c ⟨c, sa⟩); rw [Nat.add_zero] at c6; dsimp only at c6)
            | ((with_reducible refine at_load rtS y.heap.size (spC ⟨0, sa⟩) ?_ ?_ (.tmp 18) ?_ ?_ ?_ ?_); exact K6.out.bx 0 _ _ _ rfl; rfl; kernel_rfl; rfl; rfl)
            | ((with_reducible refine at_load rtS z2.heap.size (spC ⟨0, sd⟩) ?_ ?_ (.tmp 19) ?_ ?_ ?_ ?_); exact K6.out.bx 1 _ _ _ rfl; rfl; kernel_rfl; rfl; rfl)
            | ((with_reducible refine at_eq hE.out (.tmp 122) (.tmp 123) 43 ?_ ?_ ?_ ?_ ?_); kernel_rfl; rfl; rfl; rfl))
          go_roundw
          case rel => exact ⟨j + 1, _, rfl, by simp, by have := lt'.out; show j + 1 ≤ k; omega, K6.out.pre (l := [])⟩
          case measure => have := lt'.out; simp [intOf]; omega
        · have qc : (c != 1048576) = false := by have := nx ((atB_iff sa sd).1 hq); simp; omega
          clear hq nx
          go_wp2_with (first
            | ((with_reducible refine at_loadm rtS gb (ob + j * 10) (spC ⟨c, sa⟩) ?_ ?_ (.tmp 114) ?_ ?_ ?_ ?_); exact range_keep RA.out K.out.low; rfl; kernel_rfl; rfl; rfl)
            | ((with_reducible refine gen_world (y.alloc (.cells (spC ⟨0, zA⟩) 43)) (Fm y8 [(y.heap.size, spC ⟨0, zA⟩, 43)]) ?_ ?_); exact K.out.new _ _; intro z1 K1)
            | ((with_reducible refine at_st rtS y.heap.size (spC ⟨0, zA⟩) (spC ⟨c, sa⟩) ?_ ?_ ?_ ?_ (.tmp 18) (.tmp 115) ?_ ?_ ?_ ?_ ?_); exact K1.out.bx 0 _ _ _ rfl; rfl; rfl; exact spC_one _; rfl; rfl; rfl; rfl; intro z2 hw2; have K2 : Hid (Fm y8 [(y.heap.size, spC ⟨c, sa⟩, 43)] z2) := K1.out.put 0 _ _ _ _ rfl hw2.out; refine stopAt ?_))
          refine Stop.go ?_
          go_wp2_with (first
            | ((with_reducible refine at_loadm rtS gb (ob + (j + 1) * 10) (spC ⟨d, sd⟩) ?_ ?_ (.tmp 118) ?_ ?_ ?_ ?_); exact range_keep RB.out K2.out.low; rfl; kernel_rfl; rfl; rfl)
            | ((with_reducible refine gen_world (z2.alloc (.cells (spC ⟨0, zA⟩) 43)) (Fm y8 [(y.heap.size, spC ⟨c, sa⟩, 43), (z2.heap.size, spC ⟨0, zA⟩, 43)]) ?_ ?_); exact K2.out.new _ _; intro z3 K3)
            | ((with_reducible refine at_st rtS z2.heap.size (spC ⟨0, zA⟩) (spC ⟨d, sd⟩) ?_ ?_ ?_ ?_ (.tmp 19) (.tmp 119) ?_ ?_ ?_ ?_ ?_); exact K3.out.bx 1 _ _ _ rfl; rfl; rfl; exact spC_one _; rfl; rfl; rfl; rfl; intro z4 hw4; have K4 : Hid (Fm y8 [(y.heap.size, spC ⟨c, sa⟩, 43), (z2.heap.size, spC ⟨d, sd⟩, 43)] z4) := K3.out.put 1 _ _ _ _ rfl hw4.out; have e1 := (K4.out.bx 0 _ _ _ rfl).c 0 _ (spC_c ⟨c, sa⟩); have e2 := (K4.out.bx 1 _ _ _ rfl).c 0 _ (spC_c ⟨d, sd⟩); dsimp only at e1 e2; have zz1 := (K4.out.bx 0 _ _ _ rfl).fz 0; refine stopAt ?_))
          refine Stop.go ?_
          go_wp2_with (first
            | ((with_reducible refine gen_world (z4.setCell ⟨y.heap.size, 0, none⟩ (.int .i64 0)) (Fm y8 [(y.heap.size, spC ⟨0, sa⟩, 43), (z2.heap.size, spC ⟨d, sd⟩, 43)]) ?_ ?_); exact K4.out.setCell 0 _ _ _ _ rfl 0 _ rfl; intro z5 K5; have e5 := (K5.out.bx 1 _ _ _ rfl).c 0 _ (spC_c ⟨d, sd⟩); dsimp only at e5; have zz5 := (K5.out.bx 1 _ _ _ rfl).fz 0)
            | ((with_reducible refine gen_world (z5.setCell ⟨z2.heap.size, 0, none⟩ (.int .i64 0)) (Fm y8 [(y.heap.size, spC ⟨0, sa⟩, 43), (z2.heap.size, spC ⟨0, sd⟩, 43)]) ?_ ?_); exact K5.out.setCell 1 _ _ _ _ rfl 0 _ rfl; intro z6 K6; have c6 := rangeC (range_keep RA.out K6.out.low) 0 _ (spC_c ⟨c, sa⟩); rw [Nat.add_zero] at c6; dsimp only at c6)
            | ((with_reducible refine at_load rtS y.heap.size (spC ⟨0, sa⟩) ?_ ?_ (.tmp 18) ?_ ?_ ?_ ?_); exact K6.out.bx 0 _ _ _ rfl; rfl; kernel_rfl; rfl; rfl)
            | ((with_reducible refine at_load rtS z2.heap.size (spC ⟨0, sd⟩) ?_ ?_ (.tmp 19) ?_ ?_ ?_ ?_); exact K6.out.bx 1 _ _ _ rfl; rfl; kernel_rfl; rfl; rfl)
            | ((with_reducible refine at_eq hE.out (.tmp 122) (.tmp 123) 43 ?_ ?_ ?_ ?_ ?_); kernel_rfl; rfl; rfl; rfl))
          go_roundw
          case rel => exact ⟨j + 1, _, rfl, by simp, by have := lt'.out; show j + 1 ≤ k; omega, K6.out.pre (l := [])⟩
          case measure => have := lt'.out; simp [intOf]; omega
      · have hnl : ¬ (j : Int) + 1 < k := by omega
        have B : Hid (Below w.heap.size w y) := B8.out.trans (K.out.low.mono B8.out.size)
        have Ly : Hid (LiesS y s7 N) := L8.out.below K.out.low
        have hN9 := normal_any y s7 c7 N Ly (by have := hk'.out; omega)
        rw [hN.out.2.2.2.1, hk'.out] at hN9
        obtain ⟨E9, hE9⟩ : ∃ x, checkS N = x := ⟨_, rfl⟩
        rw [hE9] at hN9
        clear hlt hE9
        go_wp2_with (first
          | (go_at_call 16; refine hN9.mono ?_; rintro e9 y9 ⟨v9, rfl, H9⟩; refine stopAt ?_))
        refine Stop.go ?_
        have B9 : Hid (Below w.heap.size w y9) := B.out.trans (H9.out.fm.low.mono B.out.size)
        obtain ⟨s9, c9, rfl, L9, _⟩ := OwnS.open H9.out.oa
        have L9' : Hid (LiesS y9 s9 N ∧ LiesS y9 s7 N) := ⟨L9, Ly.out.below H9.out.fm.low⟩
        have hN10 := normal_any y9 sp2 cap2 r (hl2.out.below B9.out) (by have := hin.out.2.2.2.1; omega)
        rw [hin.out.2.2.2.1] at hN10
        rw [hk'.out]
        clear L9 H9 hN9
        go_wp2_with (first
          | (go_at_call 16; refine hN10.mono ?_; rintro e10 y10 ⟨v10, rfl, H10⟩; refine stopAt ?_))
        refine Stop.go ?_
        have B10 : Hid (Below w.heap.size w y10) := B9.out.trans (H10.out.fm.low.mono B9.out.size)
        obtain ⟨s10, c10, rfl, L10, _⟩ := OwnS.open H10.out.oa
        have L10' : Hid (LiesS y10 s10 (normS r) ∧ LiesS y10 s7 N) := ⟨L10, L9'.out.2.below H10.out.fm.low⟩
        have hS := rsame_any y10 s9 s7 c9 c7 N N (L9'.out.1.below H10.out.fm.low) L10'.out.2 (by have := hk'.out; omega) (by have := hk'.out; omega)
        rw [(sameB_iff N N).2 rfl, hk'.out] at hS
        clear L10 H10 hN10
        by_cases hr : checkS r = 0
        · have hsr := hN.out.2.2.2.2.2 hr
          have hrl := check_ok hr
          have lr := norm_len r
          rw [hr]
          have hS2 : Hid (∀ z, Below y10.heap.size y10 z → Calls Tryd.prog 11 #[.slice s10 (normS r).length c10, .slice s7 k c7] z fun e w' => e = .returned (.bool (flatB r l)) ∧ Below z.heap.size z w') := fun z hz => by
            have := rsame_any z s10 s7 c10 c7 (normS r) N (L10'.out.1.below hz) (L10'.out.2.below hz) (by omega) (by have := hk'.out; omega)
            rw [hsr, hk'.out] at this
            exact this
          have hF2 : Hid (∀ z, Below w.heap.size w z → Calls Tryd.prog 15 #[.slice sp2 m cap2, .slice sp n cap] z fun e w' => e = .returned (.bool (flatB r l)) ∧ Below z.heap.size z w') := fun z hz => by
            have := flat_any z sp2 sp cap2 cap r l (hl2.out.below hz) (hl.out.below hz) (by omega) (by have := hin.out.2.2.1; omega) hrl.2.1 hin.out.2.2.2.2
            rw [hin.out.2.2.1, hin.out.2.2.2.1] at this
            exact this
          obtain ⟨bq, hbq⟩ : ∃ x, flatB r l = x := ⟨_, rfl⟩
          rw [hbq] at hS2 hF2
          obtain ⟨kr, hkr⟩ : ∃ x, (normS r).length = x := ⟨_, rfl⟩
          rw [hkr] at hS2 ⊢
          clear hsr hrl lr hbq hkr hr
          go_wp2_with (first
            | (go_at_call 11; refine hS.mono ?_; rintro e11 y11 ⟨rfl, H11⟩; refine stopAt ?_))
          refine Stop.go ?_
          have B11 : Hid (Below w.heap.size w y11) := B10.out.trans (H11.mono B10.out.size)
          go_wp2_with (first
            | (go_at_call 11; refine (hS2.out y11 H11).mono ?_; rintro e12 y12 ⟨rfl, H12⟩; have B12 : Hid (Below w.heap.size w y12) := B11.out.trans (H12.mono B11.out.size); clear H12)
            | (go_at_call 15; refine (hF2.out y12 B12.out).mono ?_; rintro e13 y13 ⟨rfl, H13⟩; have B13 : Hid (Below w.heap.size w y13) := B12.out.trans (H13.mono B12.out.size); clear H13)
            | (go_at_call 9; refine (hW _ (tb.out.below B13.out)).mono ?_; rintro e14 y14 ⟨rfl, H14⟩; have B14 : Hid (Below w.heap.size w y14) := B13.out.trans (H14.mono B13.out.size); clear H14))
          go_ret
          exact ⟨rfl, B14.out⟩
        · obtain ⟨E, hE⟩ : ∃ x, checkS r = x := ⟨_, rfl⟩
          rw [hE] at hr ⊢
          have qE : (E != 0) = true := by simpa using hr
          obtain ⟨kr, hkr⟩ : ∃ x, (normS r).length = x := ⟨_, rfl⟩
          rw [hkr]
          clear hE hr hkr
          go_wp2_with (first
            | (go_at_call 11; refine hS.mono ?_; rintro e11 y11 ⟨rfl, H11⟩; have B11 : Hid (Below w.heap.size w y11) := B10.out.trans (H11.mono B10.out.size); clear H11)
            | (go_at_call 9; refine (hW _ (tb.out.below B11.out)).mono ?_; rintro e14 y14 ⟨rfl, H14⟩; have B14 : Hid (Below w.heap.size w y14) := B11.out.trans (H14.mono B11.out.size); clear H14))
          go_ret
          exact ⟨rfl, B14.out⟩
  · have qa : decide (n0 < 0) = false := by simpa using ha
    by_cases hb : C < n0
    · have qb : decide (C < n0) = true := by simpa using hb
      go_wp2_with (first
        | (go_at_call 13; refine hCy.mono ?_; rintro e1 y1 ⟨rfl, B1⟩; replace B1 : Hid _ := B1)
        | (go_at_call 14; refine stopAt ?_))
      refine Stop.go ?_
      have hm0 := mask_range n0
      have r0 : 0 ≤ (bits .and .i64 n0 1099511627775).tmod (C + 1) := Int.tmod_nonneg _ hm0.1
      have r1 : (bits .and .i64 n0 1099511627775).tmod (C + 1) < C + 1 := Int.tmod_lt_of_pos _ (by omega)
      obtain ⟨nn, hnn0⟩ : ∃ x, (bits .and .i64 n0 1099511627775).tmod (C + 1) = x := ⟨_, rfl⟩
      rw [hnn0] at r0 r1 ⊢
      have hnn : Hid (0 ≤ nn ∧ nn ≤ C) := ⟨r0, by omega⟩
      clear hnn0 hm0 r0 r1
      have sc := same_cut hin.out.1 nn hnn.out.1 (by have h1 := hin.out.2.1; have h2 := hnn.out.2; omega)
      have hCut := cut_any y1 sp cap l nn (hl.out.below B1.out) (by have := hin.out.2.2.1; omega)
      rw [sc.1, sc.2.1, sc.2.2.1, hin.out.2.2.1] at hCut
      have hAB : Hid (flatB (cutA l nn ++ cutB l nn) l = true ∧ InM 1048576 (cutA l nn ++ cutB l nn) ∧ (cutA l nn).length ≤ n ∧ (cutB l nn).length ≤ n) := ⟨sc.2.2.2.2.2.1, sc.2.2.2.2.2.2, by have := cut_len l nn; have := hin.out.2.2.1; omega, by have := cut_len l nn; have := hin.out.2.2.1; omega⟩
      have hA0 : Hid (checkS (cutA l nn) = 0 ∧ cyclesS (cutA l nn) = nn) := ⟨sc.2.2.2.1, sc.2.2.2.2.1⟩
      clear sc
      obtain ⟨A, hA⟩ : ∃ x, cutA l nn = x := ⟨_, rfl⟩
      obtain ⟨D, hD⟩ : ∃ x, cutB l nn = x := ⟨_, rfl⟩
      rw [hA, hD] at hCut hAB
      rw [hA] at hA0
      clear hA hD
      refine hCut.mono ?_
      rintro e2 y2 ⟨va, vb, rfl, H2⟩
      go_simp
      have B2 : Hid (Below w.heap.size w y2) := B1.out.trans (H2.out.fm.low.mono B1.out.size)
      obtain ⟨s1, c1, rfl, L1, _⟩ := OwnS.open H2.out.oa
      obtain ⟨s2, c2, rfl, _⟩ := OwnS.open H2.out.ob
      have lA : Hid (A.length ≤ 4096 ∧ D.length ≤ 4096) := ⟨by have := hAB.out.2.2.1; omega, by have := hAB.out.2.2.2; omega⟩
      have hCa := cycles_any y2 s1 c1 A L1 (by have := lA.out.1; omega)
      rw [hA0.out.1, hA0.out.2] at hCa
      clear L1
      go_wp2_with (first
        | (go_at_call 13; refine hCa.mono ?_; rintro e3 y3 ⟨rfl, H3⟩; refine stopAt ?_))
      refine Stop.go ?_
      have B3 : Hid (Below w.heap.size w y3) := B2.out.trans (H3.mono B2.out.size)
      have oa3 : Hid (OwnS y1.heap.size y3 (.slice s1 A.length c1) A) := OwnS.below H2.out.oa H3
      have ob3 : Hid (OwnS y1.heap.size y3 (.slice s2 D.length c2) D) := OwnS.below H2.out.ob H3
      clear H2 H3 hCa hA0
      go_wp2_with (first
        | (at_builtin; refine at_appL rfl (.tmp 66) (.tmp 67) rfl y3.heap.size (.slice none 0 0) [] rfl (OwnS.nil _ _) y1.heap.size (.slice s1 A.length c1) A rfl oa3.out ?_ (Nat.le_refl _) ?_; (have := lA.out.1; simp; omega); intro v4 y4 h4 b4; have O4 : Hid (OwnS y3.heap.size y4 v4 A) := h4; have b4' : Hid (Below y3.heap.size y3 y4) := b4; clear h4 b4; refine stopAt ?_))
      refine Stop.go ?_
      have ob4 : Hid (OwnS y1.heap.size y4 (.slice s2 D.length c2) D) := OwnS.below ob3.out b4'.out
      go_wp2_with (first
        | (at_builtin; refine at_appL rfl (.tmp 69) (.tmp 70) rfl y3.heap.size v4 A rfl O4.out y1.heap.size (.slice s2 D.length c2) D rfl ob4.out ?_ b4'.out.size ?_; (have := lA.out; omega); intro v5 y5 h5 b5; have O5 : Hid (OwnS y3.heap.size y5 v5 (A ++ D)) := h5; have b5' : Hid (Below y3.heap.size y4 y5) := b5; clear h5 b5; refine stopAt ?_))
      refine Stop.go ?_
      have B5 : Hid (Below w.heap.size w y5) := B3.out.trans ((b4'.out.trans b5'.out).mono B3.out.size)
      obtain ⟨s5, c5, rfl, L5, _⟩ := OwnS.open O5.out
      have hF := flat_any y5 s5 sp c5 cap (A ++ D) l L5 (hl.out.below B5.out) (by rw [List.length_append]; have := lA.out; omega) (by have := hin.out.2.2.1; omega) hAB.out.2.1 hin.out.2.2.2.2
      rw [hAB.out.1, hin.out.2.2.1] at hF
      obtain ⟨k5, hk5⟩ : ∃ k, (A ++ D).length = k := ⟨_, rfl⟩
      rw [hk5] at hF ⊢
      clear L5 hk5 O5 O4 ob4 oa3 ob3 b4' b5' hAB
      go_wp2_with (first
        | (go_at_call 15; refine hF.mono ?_; rintro e6 y6 ⟨rfl, H6⟩; refine stopAt ?_))
      refine Stop.go ?_
      have B6 : Hid (Below w.heap.size w y6) := B5.out.trans (H6.mono B5.out.size)
      have sn := same_norm hin.out.1
      have hNo := normal_any y6 sp cap l (hl.out.below B6.out) (by have := hin.out.2.2.1; omega)
      rw [hin.out.1, sn.1, hin.out.2.2.1] at hNo
      have hN : Hid (flatB (nrm 1048576 none l) l = true ∧ (nrm 1048576 none l).length ≤ n ∧ InM 1048576 (nrm 1048576 none l) ∧ normS (nrm 1048576 none l) = nrm 1048576 none l ∧ Nf 1048576 (nrm 1048576 none l) ∧ (checkS r = 0 → sameB (normS r) (nrm 1048576 none l) = flatB r l)) := ⟨sn.2.1, by have := hin.out.2.2.1; have := sn.2.2.1; omega, sn.2.2.2.1, sn.2.2.2.2.2.1, sn.2.2.2.2.2.2, fun h => by have := same_two hin.out.1 h; rw [sn.1] at this; exact this⟩
      obtain ⟨N, hNN⟩ : ∃ x, nrm 1048576 none l = x := ⟨_, rfl⟩
      rw [hNN] at hNo hN
      clear sn hNN H6 hF
      go_wp2_with (first
        | (go_at_call 16; refine hNo.mono ?_; rintro e7 y7 ⟨v7, rfl, H7⟩; refine stopAt ?_))
      refine Stop.go ?_
      have B7 : Hid (Below w.heap.size w y7) := B6.out.trans (H7.out.fm.low.mono B6.out.size)
      obtain ⟨s7, c7, rfl, L7, _⟩ := OwnS.open H7.out.oa
      have hF7 := flat_any y7 s7 sp c7 cap N l L7 (hl.out.below B7.out) (by have := hN.out.2.1; omega) (by have := hin.out.2.2.1; omega) hN.out.2.2.1 hin.out.2.2.2.2
      rw [hN.out.1, hin.out.2.2.1] at hF7
      obtain ⟨k, hk7⟩ : ∃ k, N.length = k := ⟨_, rfl⟩
      have hk' : Hid (N.length = k) := hk7
      rw [hk7] at hF7 ⊢
      have qk : ¬ n < k := by have := hN.out.2.1; omega
      have ki : (k : Int) ≤ 4096 := by have := hN.out.2.1; omega
      have L7' : Hid (LiesS y7 s7 N) := L7
      clear L7 hk7 H7 hNo
      go_wp2_with (first
        | (go_at_call 15; refine hF7.mono ?_; rintro e8 y8 ⟨rfl, H8⟩; refine stopAt ?_))
      refine Stop.go ?_
      have B8 : Hid (Below w.heap.size w y8) := B7.out.trans (H8.mono B7.out.size)
      have L8 : Hid (LiesS y8 s7 N) := L7'.out.below H8
      clear H8 L7' hF7
      go_wp2
      go_loopw [17] (fun t wz => ∃ (j : Nat) (y : World), y = wz ∧ t = .int .i64 ((j : Int) + 1) ∧ Hid (j ≤ k) ∧ Hid (Fm y8 [] y)) (fun t _ => (k - intOf t).toNat)
      case atStart => exact ⟨0, _, rfl, rfl, Nat.zero_le _, Fm.nil _⟩
      case round =>
        obtain ⟨j, y, rfl, rfl, Jj, K⟩ := hrel
        by_cases hlt : j + 1 < k
        · obtain ⟨s, hs, _⟩ := at_list hk'.out (show j < k by omega)
          obtain ⟨t, ht, _⟩ := at_list hk'.out hlt
          obtain ⟨gb, ob, hsp, RA⟩ := L8.out j s hs
          obtain ⟨gb', ob', e', RB⟩ := L8.out (j + 1) t ht
          subst hsp
          cases e'
          obtain ⟨c, sa⟩ := s
          obtain ⟨d, sd⟩ := t
          have nx := nf_next hN.out.2.2.2.2.1 j _ _ hs ht
          dsimp only at nx
          have RA : Hid (y8.rangeAt gb (ob + j * 10) (spC ⟨c, sa⟩).toList) := RA
          have RB : Hid (y8.rangeAt gb (ob + (j + 1) * 10) (spC ⟨d, sd⟩).toList) := RB
          have i1 := fun z => idxP (g := gb) (off := ob) (len := k) (cap := c7) Tryd.underlying22 (s := 10) (by kernel_rfl) .i64 j z (show j < k by omega)
          have i2 := fun z => idxP (g := gb) (off := ob) (len := k) (cap := c7) Tryd.underlying22 (s := 10) (by kernel_rfl) .i64 (j + 1) z hlt
          rw [show ((j + 1 : Nat) : Int) = (j : Int) + 1 by omega] at i2
          have hji : (j : Int) + 1 < k := by omega
          have lt' : Hid (j + 1 < k) := hlt
          have zz := zeroV_S
          have hE := eqS ⟨0, sa⟩ ⟨0, sd⟩
          rw [show snB ⟨0, sa⟩ ⟨0, sd⟩ = atB sa sd by simp [snB]] at hE
          obtain ⟨q0, hq⟩ : ∃ q, atB sa sd = q := ⟨_, rfl⟩
          rw [hq] at hE
          replace hE : Hid _ := hE
          replace hs : Hid _ := hs
          replace ht : Hid _ := ht
          clear hlt
          cases q0
          · clear hq nx
            go_wp2_with (first
              | ((with_reducible refine at_loadm rtS gb (ob + j * 10) (spC ⟨c, sa⟩) ?_ ?_ (.tmp 114) ?_ ?_ ?_ ?_); exact range_keep RA.out K.out.low; rfl; kernel_rfl; rfl; rfl)
              | ((with_reducible refine gen_world (y.alloc (.cells (spC ⟨0, zA⟩) 43)) (Fm y8 [(y.heap.size, spC ⟨0, zA⟩, 43)]) ?_ ?_); exact K.out.new _ _; intro z1 K1)
              | ((with_reducible refine at_st rtS y.heap.size (spC ⟨0, zA⟩) (spC ⟨c, sa⟩) ?_ ?_ ?_ ?_ (.tmp 18) (.tmp 115) ?_ ?_ ?_ ?_ ?_); exact K1.out.bx 0 _ _ _ rfl; rfl; rfl; exact spC_one _; rfl; rfl; rfl; rfl; intro z2 hw2; have K2 : Hid (Fm y8 [(y.heap.size, spC ⟨c, sa⟩, 43)] z2) := K1.out.put 0 _ _ _ _ rfl hw2.out; refine stopAt ?_))
            refine Stop.go ?_
            go_wp2_with (first
              | ((with_reducible refine at_loadm rtS gb (ob + (j + 1) * 10) (spC ⟨d, sd⟩) ?_ ?_ (.tmp 118) ?_ ?_ ?_ ?_); exact range_keep RB.out K2.out.low; rfl; kernel_rfl; rfl; rfl)
              | ((with_reducible refine gen_world (z2.alloc (.cells (spC ⟨0, zA⟩) 43)) (Fm y8 [(y.heap.size, spC ⟨c, sa⟩, 43), (z2.heap.size, spC ⟨0, zA⟩, 43)]) ?_ ?_); exact K2.out.new _ _; intro z3 K3)
              | ((with_reducible refine at_st rtS z2.heap.size (spC ⟨0, zA⟩) (spC ⟨d, sd⟩) ?_ ?_ ?_ ?_ (.tmp 19) (.tmp 119) ?_ ?_ ?_ ?_ ?_); exact K3.out.bx 1 _ _ _ rfl; rfl; rfl; exact spC_one _; rfl; rfl; rfl; rfl; intro z4 hw4; have K4 : Hid (Fm y8 [(y.heap.size, spC ⟨c, sa⟩, 43), (z2.heap.size, spC ⟨d, sd⟩, 43)] z4) := K3.out.put 1 _ _ _ _ rfl hw4.out; have e1 := (K4.out.bx 0 _ _ _ rfl).c 0 _ (spC_c ⟨c, sa⟩); have e2 := (K4.out.bx 1 _ _ _ rfl).c 0 _ (spC_c ⟨d, sd⟩); dsimp only at e1 e2; have zz1 := (K4.out.bx 0 _ _ _ rfl).fz 0; refine stopAt ?_))
            refine Stop.go ?_
            go_wp2_with (first
              | ((with_reducible refine gen_world (z4.setCell ⟨y.heap.size, 0, none⟩ (.int .i64 0)) (Fm y8 [(y.heap.size, spC ⟨0, sa⟩, 43), (z2.heap.size, spC ⟨d, sd⟩, 43)]) ?_ ?_); exact K4.out.setCell 0 _ _ _ _ rfl 0 _ rfl; intro z5 K5; have e5 := (K5.out.bx 1 _ _ _ rfl).c 0 _ (spC_c ⟨d, sd⟩); dsimp only at e5; have zz5 := (K5.out.bx 1 _ _ _ rfl).fz 0)
              | ((with_reducible refine gen_world (z5.setCell ⟨z2.heap.size, 0, none⟩ (.int .i64 0)) (Fm y8 [(y.heap.size, spC ⟨0, sa⟩, 43), (z2.heap.size, spC ⟨0, sd⟩, 43)]) ?_ ?_); exact K5.out.setCell 1 _ _ _ _ rfl 0 _ rfl; intro z6 K6; have c6 := rangeC (range_keep RA.out K6.out.low) 0 _ (spC_c ⟨c, sa⟩); rw [Nat.add_zero] at c6; dsimp only at c6)
              | ((with_reducible refine at_load rtS y.heap.size (spC ⟨0, sa⟩) ?_ ?_ (.tmp 18) ?_ ?_ ?_ ?_); exact K6.out.bx 0 _ _ _ rfl; rfl; kernel_rfl; rfl; rfl)
              | ((with_reducible refine at_load rtS z2.heap.size (spC ⟨0, sd⟩) ?_ ?_ (.tmp 19) ?_ ?_ ?_ ?_); exact K6.out.bx 1 _ _ _ rfl; rfl; kernel_rfl; rfl; rfl)
              | ((with_reducible refine at_eq hE.out (.tmp 122) (.tmp 123) 43 ?_ ?_ ?_ ?_ ?_); kernel_rfl; rfl; rfl; rfl))
            go_roundw
            case rel => exact ⟨j + 1, _, rfl, by simp, by have := lt'.out; show j + 1 ≤ k; omega, K6.out.pre (l := [])⟩
            case measure => have := lt'.out; simp [intOf]; omega
          · have qc : (c != 1048576) = false := by have := nx ((atB_iff sa sd).1 hq); simp; omega
            clear hq nx
            go_wp2_with (first
              | ((with_reducible refine at_loadm rtS gb (ob + j * 10) (spC ⟨c, sa⟩) ?_ ?_ (.tmp 114) ?_ ?_ ?_ ?_); exact range_keep RA.out K.out.low; rfl; kernel_rfl; rfl; rfl)
              | ((with_reducible refine gen_world (y.alloc (.cells (spC ⟨0, zA⟩) 43)) (Fm y8 [(y.heap.size, spC ⟨0, zA⟩, 43)]) ?_ ?_); exact K.out.new _ _; intro z1 K1)
              | ((with_reducible refine at_st rtS y.heap.size (spC ⟨0, zA⟩) (spC ⟨c, sa⟩) ?_ ?_ ?_ ?_ (.tmp 18) (.tmp 115) ?_ ?_ ?_ ?_ ?_); exact K1.out.bx 0 _ _ _ rfl; rfl; rfl; exact spC_one _; rfl; rfl; rfl; rfl; intro z2 hw2; have K2 : Hid (Fm y8 [(y.heap.size, spC ⟨c, sa⟩, 43)] z2) := K1.out.put 0 _ _ _ _ rfl hw2.out; refine stopAt ?_))
            refine Stop.go ?_
            go_wp2_with (first
              | ((with_reducible refine at_loadm rtS gb (ob + (j + 1) * 10) (spC ⟨d, sd⟩) ?_ ?_ (.tmp 118) ?_ ?_ ?_ ?_); exact range_keep RB.out K2.out.low; rfl; kernel_rfl; rfl; rfl)
              | ((with_reducible refine gen_world (z2.alloc (.cells (spC ⟨0, zA⟩) 43)) (Fm y8 [(y.heap.size, spC ⟨c, sa⟩, 43), (z2.heap.size, spC ⟨0, zA⟩, 43)]) ?_ ?_); exact K2.out.new _ _; intro z3 K3)
              | ((with_reducible refine at_st rtS z2.heap.size (spC ⟨0, zA⟩) (spC ⟨d, sd⟩) ?_ ?_ ?_ ?_ (.tmp 19) (.tmp 119) ?_ ?_ ?_ ?_ ?_); exact K3.out.bx 1 _ _ _ rfl; rfl; rfl; exact spC_one _; rfl; rfl; rfl; rfl; intro z4 hw4; have K4 : Hid (Fm y8 [(y.heap.size, spC ⟨c, sa⟩, 43), (z2.heap.size, spC ⟨d, sd⟩, 43)] z4) := K3.out.put 1 _ _ _ _ rfl hw4.out; have e1 := (K4.out.bx 0 _ _ _ rfl).c 0 _ (spC_c ⟨c, sa⟩); have e2 := (K4.out.bx 1 _ _ _ rfl).c 0 _ (spC_c ⟨d, sd⟩); dsimp only at e1 e2; have zz1 := (K4.out.bx 0 _ _ _ rfl).fz 0; refine stopAt ?_))
            refine Stop.go ?_
            go_wp2_with (first
              | ((with_reducible refine gen_world (z4.setCell ⟨y.heap.size, 0, none⟩ (.int .i64 0)) (Fm y8 [(y.heap.size, spC ⟨0, sa⟩, 43), (z2.heap.size, spC ⟨d, sd⟩, 43)]) ?_ ?_); exact K4.out.setCell 0 _ _ _ _ rfl 0 _ rfl; intro z5 K5; have e5 := (K5.out.bx 1 _ _ _ rfl).c 0 _ (spC_c ⟨d, sd⟩); dsimp only at e5; have zz5 := (K5.out.bx 1 _ _ _ rfl).fz 0)
              | ((with_reducible refine gen_world (z5.setCell ⟨z2.heap.size, 0, none⟩ (.int .i64 0)) (Fm y8 [(y.heap.size, spC ⟨0, sa⟩, 43), (z2.heap.size, spC ⟨0, sd⟩, 43)]) ?_ ?_); exact K5.out.setCell 1 _ _ _ _ rfl 0 _ rfl; intro z6 K6; have c6 := rangeC (range_keep RA.out K6.out.low) 0 _ (spC_c ⟨c, sa⟩); rw [Nat.add_zero] at c6; dsimp only at c6)
              | ((with_reducible refine at_load rtS y.heap.size (spC ⟨0, sa⟩) ?_ ?_ (.tmp 18) ?_ ?_ ?_ ?_); exact K6.out.bx 0 _ _ _ rfl; rfl; kernel_rfl; rfl; rfl)
              | ((with_reducible refine at_load rtS z2.heap.size (spC ⟨0, sd⟩) ?_ ?_ (.tmp 19) ?_ ?_ ?_ ?_); exact K6.out.bx 1 _ _ _ rfl; rfl; kernel_rfl; rfl; rfl)
              | ((with_reducible refine at_eq hE.out (.tmp 122) (.tmp 123) 43 ?_ ?_ ?_ ?_ ?_); kernel_rfl; rfl; rfl; rfl))
            go_roundw
            case rel => exact ⟨j + 1, _, rfl, by simp, by have := lt'.out; show j + 1 ≤ k; omega, K6.out.pre (l := [])⟩
            case measure => have := lt'.out; simp [intOf]; omega
        · have hnl : ¬ (j : Int) + 1 < k := by omega
          have B : Hid (Below w.heap.size w y) := B8.out.trans (K.out.low.mono B8.out.size)
          have Ly : Hid (LiesS y s7 N) := L8.out.below K.out.low
          have hN9 := normal_any y s7 c7 N Ly (by have := hk'.out; omega)
          rw [hN.out.2.2.2.1, hk'.out] at hN9
          obtain ⟨E9, hE9⟩ : ∃ x, checkS N = x := ⟨_, rfl⟩
          rw [hE9] at hN9
          clear hlt hE9
          go_wp2_with (first
            | (go_at_call 16; refine hN9.mono ?_; rintro e9 y9 ⟨v9, rfl, H9⟩; refine stopAt ?_))
          refine Stop.go ?_
          have B9 : Hid (Below w.heap.size w y9) := B.out.trans (H9.out.fm.low.mono B.out.size)
          obtain ⟨s9, c9, rfl, L9, _⟩ := OwnS.open H9.out.oa
          have L9' : Hid (LiesS y9 s9 N ∧ LiesS y9 s7 N) := ⟨L9, Ly.out.below H9.out.fm.low⟩
          have hN10 := normal_any y9 sp2 cap2 r (hl2.out.below B9.out) (by have := hin.out.2.2.2.1; omega)
          rw [hin.out.2.2.2.1] at hN10
          rw [hk'.out]
          clear L9 H9 hN9
          go_wp2_with (first
            | (go_at_call 16; refine hN10.mono ?_; rintro e10 y10 ⟨v10, rfl, H10⟩; refine stopAt ?_))
          refine Stop.go ?_
          have B10 : Hid (Below w.heap.size w y10) := B9.out.trans (H10.out.fm.low.mono B9.out.size)
          obtain ⟨s10, c10, rfl, L10, _⟩ := OwnS.open H10.out.oa
          have L10' : Hid (LiesS y10 s10 (normS r) ∧ LiesS y10 s7 N) := ⟨L10, L9'.out.2.below H10.out.fm.low⟩
          have hS := rsame_any y10 s9 s7 c9 c7 N N (L9'.out.1.below H10.out.fm.low) L10'.out.2 (by have := hk'.out; omega) (by have := hk'.out; omega)
          rw [(sameB_iff N N).2 rfl, hk'.out] at hS
          clear L10 H10 hN10
          by_cases hr : checkS r = 0
          · have hsr := hN.out.2.2.2.2.2 hr
            have hrl := check_ok hr
            have lr := norm_len r
            rw [hr]
            have hS2 : Hid (∀ z, Below y10.heap.size y10 z → Calls Tryd.prog 11 #[.slice s10 (normS r).length c10, .slice s7 k c7] z fun e w' => e = .returned (.bool (flatB r l)) ∧ Below z.heap.size z w') := fun z hz => by
              have := rsame_any z s10 s7 c10 c7 (normS r) N (L10'.out.1.below hz) (L10'.out.2.below hz) (by omega) (by have := hk'.out; omega)
              rw [hsr, hk'.out] at this
              exact this
            have hF2 : Hid (∀ z, Below w.heap.size w z → Calls Tryd.prog 15 #[.slice sp2 m cap2, .slice sp n cap] z fun e w' => e = .returned (.bool (flatB r l)) ∧ Below z.heap.size z w') := fun z hz => by
              have := flat_any z sp2 sp cap2 cap r l (hl2.out.below hz) (hl.out.below hz) (by omega) (by have := hin.out.2.2.1; omega) hrl.2.1 hin.out.2.2.2.2
              rw [hin.out.2.2.1, hin.out.2.2.2.1] at this
              exact this
            obtain ⟨bq, hbq⟩ : ∃ x, flatB r l = x := ⟨_, rfl⟩
            rw [hbq] at hS2 hF2
            obtain ⟨kr, hkr⟩ : ∃ x, (normS r).length = x := ⟨_, rfl⟩
            rw [hkr] at hS2 ⊢
            clear hsr hrl lr hbq hkr hr
            go_wp2_with (first
              | (go_at_call 11; refine hS.mono ?_; rintro e11 y11 ⟨rfl, H11⟩; refine stopAt ?_))
            refine Stop.go ?_
            have B11 : Hid (Below w.heap.size w y11) := B10.out.trans (H11.mono B10.out.size)
            go_wp2_with (first
              | (go_at_call 11; refine (hS2.out y11 H11).mono ?_; rintro e12 y12 ⟨rfl, H12⟩; have B12 : Hid (Below w.heap.size w y12) := B11.out.trans (H12.mono B11.out.size); clear H12)
              | (go_at_call 15; refine (hF2.out y12 B12.out).mono ?_; rintro e13 y13 ⟨rfl, H13⟩; have B13 : Hid (Below w.heap.size w y13) := B12.out.trans (H13.mono B12.out.size); clear H13)
              | (go_at_call 9; refine (hW _ (tb.out.below B13.out)).mono ?_; rintro e14 y14 ⟨rfl, H14⟩; have B14 : Hid (Below w.heap.size w y14) := B13.out.trans (H14.mono B13.out.size); clear H14))
            go_ret
            exact ⟨rfl, B14.out⟩
          · obtain ⟨E, hE⟩ : ∃ x, checkS r = x := ⟨_, rfl⟩
            rw [hE] at hr ⊢
            have qE : (E != 0) = true := by simpa using hr
            obtain ⟨kr, hkr⟩ : ∃ x, (normS r).length = x := ⟨_, rfl⟩
            rw [hkr]
            clear hE hr hkr
            go_wp2_with (first
              | (go_at_call 11; refine hS.mono ?_; rintro e11 y11 ⟨rfl, H11⟩; have B11 : Hid (Below w.heap.size w y11) := B10.out.trans (H11.mono B10.out.size); clear H11)
              | (go_at_call 9; refine (hW _ (tb.out.below B11.out)).mono ?_; rintro e14 y14 ⟨rfl, H14⟩; have B14 : Hid (Below w.heap.size w y14) := B11.out.trans (H14.mono B11.out.size); clear H14))
            go_ret
            exact ⟨rfl, B14.out⟩
    · have qb : decide (C < n0) = false := by simpa using hb
      obtain ⟨nn, hnn0⟩ : ∃ x, n0 = x := ⟨_, rfl⟩
      have hnn : Hid (0 ≤ nn ∧ nn ≤ C) := by show _ ∧ _; omega
      go_wp2_with (first
        | (go_at_call 13; refine hCy.mono ?_; rintro e1 y1 ⟨rfl, B1⟩; replace B1 : Hid _ := B1)
        | (go_at_call 14; refine stopAt ?_))
      refine Stop.go ?_
      clear hnn0
      have sc := same_cut hin.out.1 nn hnn.out.1 (by have h1 := hin.out.2.1; have h2 := hnn.out.2; omega)
      have hCut := cut_any y1 sp cap l nn (hl.out.below B1.out) (by have := hin.out.2.2.1; omega)
      rw [sc.1, sc.2.1, sc.2.2.1, hin.out.2.2.1] at hCut
      have hAB : Hid (flatB (cutA l nn ++ cutB l nn) l = true ∧ InM 1048576 (cutA l nn ++ cutB l nn) ∧ (cutA l nn).length ≤ n ∧ (cutB l nn).length ≤ n) := ⟨sc.2.2.2.2.2.1, sc.2.2.2.2.2.2, by have := cut_len l nn; have := hin.out.2.2.1; omega, by have := cut_len l nn; have := hin.out.2.2.1; omega⟩
      have hA0 : Hid (checkS (cutA l nn) = 0 ∧ cyclesS (cutA l nn) = nn) := ⟨sc.2.2.2.1, sc.2.2.2.2.1⟩
      clear sc
      obtain ⟨A, hA⟩ : ∃ x, cutA l nn = x := ⟨_, rfl⟩
      obtain ⟨D, hD⟩ : ∃ x, cutB l nn = x := ⟨_, rfl⟩
      rw [hA, hD] at hCut hAB
      rw [hA] at hA0
      clear hA hD
      refine hCut.mono ?_
      rintro e2 y2 ⟨va, vb, rfl, H2⟩
      go_simp
      have B2 : Hid (Below w.heap.size w y2) := B1.out.trans (H2.out.fm.low.mono B1.out.size)
      obtain ⟨s1, c1, rfl, L1, _⟩ := OwnS.open H2.out.oa
      obtain ⟨s2, c2, rfl, _⟩ := OwnS.open H2.out.ob
      have lA : Hid (A.length ≤ 4096 ∧ D.length ≤ 4096) := ⟨by have := hAB.out.2.2.1; omega, by have := hAB.out.2.2.2; omega⟩
      have hCa := cycles_any y2 s1 c1 A L1 (by have := lA.out.1; omega)
      rw [hA0.out.1, hA0.out.2] at hCa
      clear L1
      go_wp2_with (first
        | (go_at_call 13; refine hCa.mono ?_; rintro e3 y3 ⟨rfl, H3⟩; refine stopAt ?_))
      refine Stop.go ?_
      have B3 : Hid (Below w.heap.size w y3) := B2.out.trans (H3.mono B2.out.size)
      have oa3 : Hid (OwnS y1.heap.size y3 (.slice s1 A.length c1) A) := OwnS.below H2.out.oa H3
      have ob3 : Hid (OwnS y1.heap.size y3 (.slice s2 D.length c2) D) := OwnS.below H2.out.ob H3
      clear H2 H3 hCa hA0
      go_wp2_with (first
        | (at_builtin; refine at_appL rfl (.tmp 66) (.tmp 67) rfl y3.heap.size (.slice none 0 0) [] rfl (OwnS.nil _ _) y1.heap.size (.slice s1 A.length c1) A rfl oa3.out ?_ (Nat.le_refl _) ?_; (have := lA.out.1; simp; omega); intro v4 y4 h4 b4; have O4 : Hid (OwnS y3.heap.size y4 v4 A) := h4; have b4' : Hid (Below y3.heap.size y3 y4) := b4; clear h4 b4; refine stopAt ?_))
      refine Stop.go ?_
      have ob4 : Hid (OwnS y1.heap.size y4 (.slice s2 D.length c2) D) := OwnS.below ob3.out b4'.out
      go_wp2_with (first
        | (at_builtin; refine at_appL rfl (.tmp 69) (.tmp 70) rfl y3.heap.size v4 A rfl O4.out y1.heap.size (.slice s2 D.length c2) D rfl ob4.out ?_ b4'.out.size ?_; (have := lA.out; omega); intro v5 y5 h5 b5; have O5 : Hid (OwnS y3.heap.size y5 v5 (A ++ D)) := h5; have b5' : Hid (Below y3.heap.size y4 y5) := b5; clear h5 b5; refine stopAt ?_))
      refine Stop.go ?_
      have B5 : Hid (Below w.heap.size w y5) := B3.out.trans ((b4'.out.trans b5'.out).mono B3.out.size)
      obtain ⟨s5, c5, rfl, L5, _⟩ := OwnS.open O5.out
      have hF := flat_any y5 s5 sp c5 cap (A ++ D) l L5 (hl.out.below B5.out) (by rw [List.length_append]; have := lA.out; omega) (by have := hin.out.2.2.1; omega) hAB.out.2.1 hin.out.2.2.2.2
      rw [hAB.out.1, hin.out.2.2.1] at hF
      obtain ⟨k5, hk5⟩ : ∃ k, (A ++ D).length = k := ⟨_, rfl⟩
      rw [hk5] at hF ⊢
      clear L5 hk5 O5 O4 ob4 oa3 ob3 b4' b5' hAB
      go_wp2_with (first
        | (go_at_call 15; refine hF.mono ?_; rintro e6 y6 ⟨rfl, H6⟩; refine stopAt ?_))
      refine Stop.go ?_
      have B6 : Hid (Below w.heap.size w y6) := B5.out.trans (H6.mono B5.out.size)
      have sn := same_norm hin.out.1
      have hNo := normal_any y6 sp cap l (hl.out.below B6.out) (by have := hin.out.2.2.1; omega)
      rw [hin.out.1, sn.1, hin.out.2.2.1] at hNo
      have hN : Hid (flatB (nrm 1048576 none l) l = true ∧ (nrm 1048576 none l).length ≤ n ∧ InM 1048576 (nrm 1048576 none l) ∧ normS (nrm 1048576 none l) = nrm 1048576 none l ∧ Nf 1048576 (nrm 1048576 none l) ∧ (checkS r = 0 → sameB (normS r) (nrm 1048576 none l) = flatB r l)) := ⟨sn.2.1, by have := hin.out.2.2.1; have := sn.2.2.1; omega, sn.2.2.2.1, sn.2.2.2.2.2.1, sn.2.2.2.2.2.2, fun h => by have := same_two hin.out.1 h; rw [sn.1] at this; exact this⟩
      obtain ⟨N, hNN⟩ : ∃ x, nrm 1048576 none l = x := ⟨_, rfl⟩
      rw [hNN] at hNo hN
      clear sn hNN H6 hF
      go_wp2_with (first
        | (go_at_call 16; refine hNo.mono ?_; rintro e7 y7 ⟨v7, rfl, H7⟩; refine stopAt ?_))
      refine Stop.go ?_
      have B7 : Hid (Below w.heap.size w y7) := B6.out.trans (H7.out.fm.low.mono B6.out.size)
      obtain ⟨s7, c7, rfl, L7, _⟩ := OwnS.open H7.out.oa
      have hF7 := flat_any y7 s7 sp c7 cap N l L7 (hl.out.below B7.out) (by have := hN.out.2.1; omega) (by have := hin.out.2.2.1; omega) hN.out.2.2.1 hin.out.2.2.2.2
      rw [hN.out.1, hin.out.2.2.1] at hF7
      obtain ⟨k, hk7⟩ : ∃ k, N.length = k := ⟨_, rfl⟩
      have hk' : Hid (N.length = k) := hk7
      rw [hk7] at hF7 ⊢
      have qk : ¬ n < k := by have := hN.out.2.1; omega
      have ki : (k : Int) ≤ 4096 := by have := hN.out.2.1; omega
      have L7' : Hid (LiesS y7 s7 N) := L7
      clear L7 hk7 H7 hNo
      go_wp2_with (first
        | (go_at_call 15; refine hF7.mono ?_; rintro e8 y8 ⟨rfl, H8⟩; refine stopAt ?_))
      refine Stop.go ?_
      have B8 : Hid (Below w.heap.size w y8) := B7.out.trans (H8.mono B7.out.size)
      have L8 : Hid (LiesS y8 s7 N) := L7'.out.below H8
      clear H8 L7' hF7
      go_wp2
      go_loopw [17] (fun t wz => ∃ (j : Nat) (y : World), y = wz ∧ t = .int .i64 ((j : Int) + 1) ∧ Hid (j ≤ k) ∧ Hid (Fm y8 [] y)) (fun t _ => (k - intOf t).toNat)
      case atStart => exact ⟨0, _, rfl, rfl, Nat.zero_le _, Fm.nil _⟩
      case round =>
        obtain ⟨j, y, rfl, rfl, Jj, K⟩ := hrel
        by_cases hlt : j + 1 < k
        · obtain ⟨s, hs, _⟩ := at_list hk'.out (show j < k by omega)
          obtain ⟨t, ht, _⟩ := at_list hk'.out hlt
          obtain ⟨gb, ob, hsp, RA⟩ := L8.out j s hs
          obtain ⟨gb', ob', e', RB⟩ := L8.out (j + 1) t ht
          subst hsp
          cases e'
          obtain ⟨c, sa⟩ := s
          obtain ⟨d, sd⟩ := t
          have nx := nf_next hN.out.2.2.2.2.1 j _ _ hs ht
          dsimp only at nx
          have RA : Hid (y8.rangeAt gb (ob + j * 10) (spC ⟨c, sa⟩).toList) := RA
          have RB : Hid (y8.rangeAt gb (ob + (j + 1) * 10) (spC ⟨d, sd⟩).toList) := RB
          have i1 := fun z => idxP (g := gb) (off := ob) (len := k) (cap := c7) Tryd.underlying22 (s := 10) (by kernel_rfl) .i64 j z (show j < k by omega)
          have i2 := fun z => idxP (g := gb) (off := ob) (len := k) (cap := c7) Tryd.underlying22 (s := 10) (by kernel_rfl) .i64 (j + 1) z hlt
          rw [show ((j + 1 : Nat) : Int) = (j : Int) + 1 by omega] at i2
          have hji : (j : Int) + 1 < k := by omega
          have lt' : Hid (j + 1 < k) := hlt
          have zz := zeroV_S
          have hE := eqS ⟨0, sa⟩ ⟨0, sd⟩
          rw [show snB ⟨0, sa⟩ ⟨0, sd⟩ = atB sa sd by simp [snB]] at hE
          obtain ⟨q0, hq⟩ : ∃ q, atB sa sd = q := ⟨_, rfl⟩
          rw [hq] at hE
          replace hE : Hid _ := hE
          replace hs : Hid _ := hs
          replace ht : Hid _ := ht
          clear hlt
          cases q0
          · clear hq nx
            go_wp2_with (first
              | ((with_reducible refine at_loadm rtS gb (ob + j * 10) (spC ⟨c, sa⟩) ?_ ?_ (.tmp 114) ?_ ?_ ?_ ?_); exact range_keep RA.out K.out.low; rfl; kernel_rfl; rfl; rfl)
              | ((with_reducible refine gen_world (y.alloc (.cells (spC ⟨0, zA⟩) 43)) (Fm y8 [(y.heap.size, spC ⟨0, zA⟩, 43)]) ?_ ?_); exact K.out.new _ _; intro z1 K1)
              | ((with_reducible refine at_st rtS y.heap.size (spC ⟨0, zA⟩) (spC ⟨c, sa⟩) ?_ ?_ ?_ ?_ (.tmp 18) (.tmp 115) ?_ ?_ ?_ ?_ ?_); exact K1.out.bx 0 _ _ _ rfl; rfl; rfl; exact spC_one _; rfl; rfl; rfl; rfl; intro z2 hw2; have K2 : Hid (Fm y8 [(y.heap.size, spC ⟨c, sa⟩, 43)] z2) := K1.out.put 0 _ _ _ _ rfl hw2.out; refine stopAt ?_))
            refine Stop.go ?_
            go_wp2_with (first
              | ((with_reducible refine at_loadm rtS gb (ob + (j + 1) * 10) (spC ⟨d, sd⟩) ?_ ?_ (.tmp 118) ?_ ?_ ?_ ?_); exact range_keep RB.out K2.out.low; rfl; kernel_rfl; rfl; rfl)
              | ((with_reducible refine gen_world (z2.alloc (.cells (spC ⟨0, zA⟩) 43)) (Fm y8 [(y.heap.size, spC ⟨c, sa⟩, 43), (z2.heap.size, spC ⟨0, zA⟩, 43)]) ?_ ?_); exact K2.out.new _ _; intro z3 K3)
              | ((with_reducible refine at_st rtS z2.heap.size (spC ⟨0, zA⟩) (spC ⟨d, sd⟩) ?_ ?_ ?_ ?_ (.tmp 19) (.tmp 119) ?_ ?_ ?_ ?_ ?_); exact K3.out.bx 1 _ _ _ rfl; rfl; rfl; exact spC_one _; rfl; rfl; rfl; rfl; intro z4 hw4; have K4 : Hid (Fm y8 [(y.heap.size, spC ⟨c, sa⟩, 43), (z2.heap.size, spC ⟨d, sd⟩, 43)] z4) := K3.out.put 1 _ _ _ _ rfl hw4.out; have e1 := (K4.out.bx 0 _ _ _ rfl).c 0 _ (spC_c ⟨c, sa⟩); have e2 := (K4.out.bx 1 _ _ _ rfl).c 0 _ (spC_c ⟨d, sd⟩); dsimp only at e1 e2; have zz1 := (K4.out.bx 0 _ _ _ rfl).fz 0; refine stopAt ?_))
            refine Stop.go ?_
            go_wp2_with (first
              | ((with_reducible refine gen_world (z4.setCell ⟨y.heap.size, 0, none⟩ (.int .i64 0)) (Fm y8 [(y.heap.size, spC ⟨0, sa⟩, 43), (z2.heap.size, spC ⟨d, sd⟩, 43)]) ?_ ?_); exact K4.out.setCell 0 _ _ _ _ rfl 0 _ rfl; intro z5 K5; have e5 := (K5.out.bx 1 _ _ _ rfl).c 0 _ (spC_c ⟨d, sd⟩); dsimp only at e5; have zz5 := (K5.out.bx 1 _ _ _ rfl).fz 0)
              | ((with_reducible refine gen_world (z5.setCell ⟨z2.heap.size, 0, none⟩ (.int .i64 0)) (Fm y8 [(y.heap.size, spC ⟨0, sa⟩, 43), (z2.heap.size, spC ⟨0, sd⟩, 43)]) ?_ ?_); exact K5.out.setCell 1 _ _ _ _ rfl 0 _ rfl; intro z6 K6; have c6 := rangeC (range_keep RA.out K6.out.low) 0 _ (spC_c ⟨c, sa⟩); rw [Nat.add_zero] at c6; dsimp only at c6)
              | ((with_reducible refine at_load rtS y.heap.size (spC ⟨0, sa⟩) ?_ ?_ (.tmp 18) ?_ ?_ ?_ ?_); exact K6.out.bx 0 _ _ _ rfl; rfl; kernel_rfl; rfl; rfl)
              | ((with_reducible refine at_load rtS z2.heap.size (spC ⟨0, sd⟩) ?_ ?_ (.tmp 19) ?_ ?_ ?_ ?_); exact K6.out.bx 1 _ _ _ rfl; rfl; kernel_rfl; rfl; rfl)
              | ((with_reducible refine at_eq hE.out (.tmp 122) (.tmp 123) 43 ?_ ?_ ?_ ?_ ?_); kernel_rfl; rfl; rfl; rfl))
            go_roundw
            case rel => exact ⟨j + 1, _, rfl, by simp, by have := lt'.out; show j + 1 ≤ k; omega, K6.out.pre (l := [])⟩
            case measure => have := lt'.out; simp [intOf]; omega
          · have qc : (c != 1048576) = false := by have := nx ((atB_iff sa sd).1 hq); simp; omega
            clear hq nx
            go_wp2_with (first
              | ((with_reducible refine at_loadm rtS gb (ob + j * 10) (spC ⟨c, sa⟩) ?_ ?_ (.tmp 114) ?_ ?_ ?_ ?_); exact range_keep RA.out K.out.low; rfl; kernel_rfl; rfl; rfl)
              | ((with_reducible refine gen_world (y.alloc (.cells (spC ⟨0, zA⟩) 43)) (Fm y8 [(y.heap.size, spC ⟨0, zA⟩, 43)]) ?_ ?_); exact K.out.new _ _; intro z1 K1)
              | ((with_reducible refine at_st rtS y.heap.size (spC ⟨0, zA⟩) (spC ⟨c, sa⟩) ?_ ?_ ?_ ?_ (.tmp 18) (.tmp 115) ?_ ?_ ?_ ?_ ?_); exact K1.out.bx 0 _ _ _ rfl; rfl; rfl; exact spC_one _; rfl; rfl; rfl; rfl; intro z2 hw2; have K2 : Hid (Fm y8 [(y.heap.size, spC ⟨c, sa⟩, 43)] z2) := K1.out.put 0 _ _ _ _ rfl hw2.out; refine stopAt ?_))
            refine Stop.go ?_
            go_wp2_with (first
              | ((with_reducible refine at_loadm rtS gb (ob + (j + 1) * 10) (spC ⟨d, sd⟩) ?_ ?_ (.tmp 118) ?_ ?_ ?_ ?_); exact range_keep RB.out K2.out.low; rfl; kernel_rfl; rfl; rfl)
              | ((with_reducible refine gen_world (z2.alloc (.cells (spC ⟨0, zA⟩) 43)) (Fm y8 [(y.heap.size, spC ⟨c, sa⟩, 43), (z2.heap.size, spC ⟨0, zA⟩, 43)]) ?_ ?_); exact K2.out.new _ _; intro z3 K3)
              | ((with_reducible refine at_st rtS z2.heap.size (spC ⟨0, zA⟩) (spC ⟨d, sd⟩) ?_ ?_ ?_ ?_ (.tmp 19) (.tmp 119) ?_ ?_ ?_ ?_ ?_); exact K3.out.bx 1 _ _ _ rfl; rfl; rfl; exact spC_one _; rfl; rfl; rfl; rfl; intro z4 hw4; have K4 : Hid (Fm y8 [(y.heap.size, spC ⟨c, sa⟩, 43), (z2.heap.size, spC ⟨d, sd⟩, 43)] z4) := K3.out.put 1 _ _ _ _ rfl hw4.out; have e1 := (K4.out.bx 0 _ _ _ rfl).c 0 _ (spC_c ⟨c, sa⟩); have e2 := (K4.out.bx 1 _ _ _ rfl).c 0 _ (spC_c ⟨d, sd⟩); dsimp only at e1 e2; have zz1 := (K4.out.bx 0 _ _ _ rfl).fz 0; refine stopAt ?_))
            refine Stop.go ?_
            go_wp2_with (first
              | ((with_reducible refine gen_world (z4.setCell ⟨y.heap.size, 0, none⟩ (.int .i64 0)) (Fm y8 [(y.heap.size, spC ⟨0, sa⟩, 43), (z2.heap.size, spC ⟨d, sd⟩, 43)]) ?_ ?_); exact K4.out.setCell 0 _ _ _ _ rfl 0 _ rfl; intro z5 K5; have e5 := (K5.out.bx 1 _ _ _ rfl).c 0 _ (spC_c ⟨d, sd⟩); dsimp only at e5; have zz5 := (K5.out.bx 1 _ _ _ rfl).fz 0)
              | ((with_reducible refine gen_world (z5.setCell ⟨z2.heap.size, 0, none⟩ (.int .i64 0)) (Fm y8 [(y.heap.size, spC ⟨0, sa⟩, 43), (z2.heap.size, spC ⟨0, sd⟩, 43)]) ?_ ?_); exact K5.out.setCell 1 _ _ _ _ rfl 0 _ rfl; intro z6 K6; have c6 := rangeC (range_keep RA.out K6.out.low) 0 _ (spC_c ⟨c, sa⟩); rw [Nat.add_zero] at c6; dsimp only at c6)
              | ((with_reducible refine at_load rtS y.heap.size (spC ⟨0, sa⟩) ?_ ?_ (.tmp 18) ?_ ?_ ?_ ?_); exact K6.out.bx 0 _ _ _ rfl; rfl; kernel_rfl; rfl; rfl)
              | ((with_reducible refine at_load rtS z2.heap.size (spC ⟨0, sd⟩) ?_ ?_ (.tmp 19) ?_ ?_ ?_ ?_); exact K6.out.bx 1 _ _ _ rfl; rfl; kernel_rfl; rfl; rfl)
              | ((with_reducible refine at_eq hE.out (.tmp 122) (.tmp 123) 43 ?_ ?_ ?_ ?_ ?_); kernel_rfl; rfl; rfl; rfl))
            go_roundw
            case rel => exact ⟨j + 1, _, rfl, by simp, by have := lt'.out; show j + 1 ≤ k; omega, K6.out.pre (l := [])⟩
            case measure => have := lt'.out; simp [intOf]; omega
        · have hnl : ¬ (j : Int) + 1 < k := by omega
          have B : Hid (Below w.heap.size w y) := B8.out.trans (K.out.low.mono B8.out.size)
          have Ly : Hid (LiesS y s7 N) := L8.out.below K.out.low
          have hN9 := normal_any y s7 c7 N Ly (by have := hk'.out; omega)
          rw [hN.out.2.2.2.1, hk'.out] at hN9
          obtain ⟨E9, hE9⟩ : ∃ x, checkS N = x := ⟨_, rfl⟩
          rw [hE9] at hN9
          clear hlt hE9
          go_wp2_with (first
            | (go_at_call 16; refine hN9.mono ?_; rintro e9 y9 ⟨v9, rfl, H9⟩; refine stopAt ?_))
          refine Stop.go ?_
          have B9 : Hid (Below w.heap.size w y9) := B.out.trans (H9.out.fm.low.mono B.out.size)
          obtain ⟨s9, c9, rfl, L9, _⟩ := OwnS.open H9.out.oa
          have L9' : Hid (LiesS y9 s9 N ∧ LiesS y9 s7 N) := ⟨L9, Ly.out.below H9.out.fm.low⟩
          have hN10 := normal_any y9 sp2 cap2 r (hl2.out.below B9.out) (by have := hin.out.2.2.2.1; omega)
          rw [hin.out.2.2.2.1] at hN10
          rw [hk'.out]
          clear L9 H9 hN9
          go_wp2_with (first
            | (go_at_call 16; refine hN10.mono ?_; rintro e10 y10 ⟨v10, rfl, H10⟩; refine stopAt ?_))
          refine Stop.go ?_
          have B10 : Hid (Below w.heap.size w y10) := B9.out.trans (H10.out.fm.low.mono B9.out.size)
          obtain ⟨s10, c10, rfl, L10, _⟩ := OwnS.open H10.out.oa
          have L10' : Hid (LiesS y10 s10 (normS r) ∧ LiesS y10 s7 N) := ⟨L10, L9'.out.2.below H10.out.fm.low⟩
          have hS := rsame_any y10 s9 s7 c9 c7 N N (L9'.out.1.below H10.out.fm.low) L10'.out.2 (by have := hk'.out; omega) (by have := hk'.out; omega)
          rw [(sameB_iff N N).2 rfl, hk'.out] at hS
          clear L10 H10 hN10
          by_cases hr : checkS r = 0
          · have hsr := hN.out.2.2.2.2.2 hr
            have hrl := check_ok hr
            have lr := norm_len r
            rw [hr]
            have hS2 : Hid (∀ z, Below y10.heap.size y10 z → Calls Tryd.prog 11 #[.slice s10 (normS r).length c10, .slice s7 k c7] z fun e w' => e = .returned (.bool (flatB r l)) ∧ Below z.heap.size z w') := fun z hz => by
              have := rsame_any z s10 s7 c10 c7 (normS r) N (L10'.out.1.below hz) (L10'.out.2.below hz) (by omega) (by have := hk'.out; omega)
              rw [hsr, hk'.out] at this
              exact this
            have hF2 : Hid (∀ z, Below w.heap.size w z → Calls Tryd.prog 15 #[.slice sp2 m cap2, .slice sp n cap] z fun e w' => e = .returned (.bool (flatB r l)) ∧ Below z.heap.size z w') := fun z hz => by
              have := flat_any z sp2 sp cap2 cap r l (hl2.out.below hz) (hl.out.below hz) (by omega) (by have := hin.out.2.2.1; omega) hrl.2.1 hin.out.2.2.2.2
              rw [hin.out.2.2.1, hin.out.2.2.2.1] at this
              exact this
            obtain ⟨bq, hbq⟩ : ∃ x, flatB r l = x := ⟨_, rfl⟩
            rw [hbq] at hS2 hF2
            obtain ⟨kr, hkr⟩ : ∃ x, (normS r).length = x := ⟨_, rfl⟩
            rw [hkr] at hS2 ⊢
            clear hsr hrl lr hbq hkr hr
            go_wp2_with (first
              | (go_at_call 11; refine hS.mono ?_; rintro e11 y11 ⟨rfl, H11⟩; refine stopAt ?_))
            refine Stop.go ?_
            have B11 : Hid (Below w.heap.size w y11) := B10.out.trans (H11.mono B10.out.size)
            go_wp2_with (first
              | (go_at_call 11; refine (hS2.out y11 H11).mono ?_; rintro e12 y12 ⟨rfl, H12⟩; have B12 : Hid (Below w.heap.size w y12) := B11.out.trans (H12.mono B11.out.size); clear H12)
              | (go_at_call 15; refine (hF2.out y12 B12.out).mono ?_; rintro e13 y13 ⟨rfl, H13⟩; have B13 : Hid (Below w.heap.size w y13) := B12.out.trans (H13.mono B12.out.size); clear H13)
              | (go_at_call 9; refine (hW _ (tb.out.below B13.out)).mono ?_; rintro e14 y14 ⟨rfl, H14⟩; have B14 : Hid (Below w.heap.size w y14) := B13.out.trans (H14.mono B13.out.size); clear H14))
            go_ret
            exact ⟨rfl, B14.out⟩
          · obtain ⟨E, hE⟩ : ∃ x, checkS r = x := ⟨_, rfl⟩
            rw [hE] at hr ⊢
            have qE : (E != 0) = true := by simpa using hr
            obtain ⟨kr, hkr⟩ : ∃ x, (normS r).length = x := ⟨_, rfl⟩
            rw [hkr]
            clear hE hr hkr
            go_wp2_with (first
              | (go_at_call 11; refine hS.mono ?_; rintro e11 y11 ⟨rfl, H11⟩; have B11 : Hid (Below w.heap.size w y11) := B10.out.trans (H11.mono B10.out.size); clear H11)
              | (go_at_call 9; refine (hW _ (tb.out.below B11.out)).mono ?_; rintro e14 y14 ⟨rfl, H14⟩; have B14 : Hid (Below w.heap.size w y14) := B11.out.trans (H14.mono B11.out.size); clear H14))
            go_ret
            exact ⟨rfl, B14.out⟩

end Go.Proofs.YthpahpfnpapoiabDoor
