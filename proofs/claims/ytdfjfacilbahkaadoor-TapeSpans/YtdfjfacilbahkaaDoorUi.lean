/- The document's Spans: the walk. -/
import Derived.Test.YtdfjfacilbahkaaDoorUh
namespace Go.Proofs.YtdfjfacilbahkaaDoor
open Go Go.RowKit
set_option linter.unusedVariables false
set_option maxHeartbeats 4000000
set_option maxRecDepth 20000

theorem rspans_any (w : World) (sp : Option Addr) (cap : Nat) (l : List (Int × Int)) (c0 : Int) (sa : At) (hl : Hid (L2 w sp l)) (hn : l.length ≤ 9223372036854775807) :
    Calls Tryd.prog 18 #[.slice sp l.length cap, .agg (spC ⟨c0, sa⟩)] w fun e w' => ∃ v, e = .returned (.tuple #[v, .int .i64 (spansW l sa).2]) ∧ Hid (KL 37 10 cS w v (spansW l sa).1 w') := by
  have hF : Hid (Fm w [(w.heap.size, spC ⟨c0, sa⟩, 37)] (w.alloc (.cells (spC ⟨c0, sa⟩) 37))) := Fm.one w _ _
  obtain ⟨n, hn'⟩ : ∃ n, l.length = n := ⟨_, rfl⟩
  have ni : (n : Int) ≤ 9223372036854775807 := by omega
  obtain ⟨R, hR⟩ : ∃ x, spansW l sa = x := ⟨_, rfl⟩
  rw [hR]
  unfold spansW at hR
  rw [hn'] at hR ⊢
  replace hR : Hid _ := hR
  have hl' : Hid (l.length = n) := hn'
  have zz := zeroVSp
  obtain ⟨Z, hZ⟩ : ∃ Z, (⟨0, ⟨0, false, false, false, false, false, false, false, 0⟩⟩ : Sn) = Z := ⟨_, rfl⟩
  rw [hZ] at zz
  obtain ⟨SC, hSC⟩ : ∃ x, spC ⟨c0, sa⟩ = x := ⟨_, rfl⟩
  rw [hSC] at hF ⊢
  replace hSC : Hid _ := hSC
  obtain ⟨y0, hy0⟩ : ∃ x, w.alloc (.cells SC 37) = x := ⟨_, rfl⟩
  have F0 : Hid (Fm w [(w.heap.size, SC, 37)] y0) := by have := hF; rw [hy0] at this; exact this
  replace hy0 : Hid _ := hy0
  clear hn hn' hZ hF
  go_enter Tryd.func18, Tryd.ntmps18
  go_wp2
  go_loopw [6, 7] (fun i _ wz => ∃ (j : Nat) (y : World), y = wz ∧ i = .int .i64 (j : Int) ∧ Hid (j ≤ n ∧ l.all okW = (l.drop j).all okW) ∧ Hid (Below y0.heap.size y0 y)) (fun i _ _ => (n - intOf i).toNat)
  case atStart => exact ⟨0, y0, hy0.out.symm, rfl, ⟨Nat.zero_le _, rfl⟩, Below.refl _ _⟩
  case round =>
    obtain ⟨j, y, rfl, rfl, J, U⟩ := hrel
    by_cases hlt : j < n
    · obtain ⟨p, hp, hdrop⟩ := row_at hl'.out hlt
      obtain ⟨g, o, rfl, hc, -, -⟩ := l2_at ((hl.out.below F0.out.low).below U.out) j p hp
      replace hc : Hid (y.rangeAt g (o + j * 2) (c2 p).toArray.toList) := hc
      have ij := fun u => idxP (g := g) (off := o) (len := n) (cap := cap) Tryd.underlying24 (s := 2) (by kernel_rfl) .i64 j u hlt
      have hji : (j : Int) < n := by omega
      have hlt' : Hid (j < n) := hlt
      have J2 : Hid (l.all okW = (okW p && (l.drop (j + 1)).all okW)) := by
        have h := J.out.2
        rw [hdrop] at h
        exact h
      have k1 : Hid ((c2 p).toArray[0]? = some (.int .i64 p.1)) := rfl
      have k2 : Hid ((c2 p).toArray[1]? = some (.int .i64 p.2)) := rfl
      have hone := c2_all p
      have hsz : Hid ((c2 p).toArray.size = 2) := rfl
      have hok : okW p = !(decide (p.1 < 1) || decide (1048576 < p.1) || decide (p.2 < 1) || decide (1048576 < p.2)) := rfl
      rw [hok] at J2
      obtain ⟨C, eC⟩ : ∃ x, (c2 p).toArray = x := ⟨_, rfl⟩
      rw [eC] at hc k1 k2 hone hsz
      obtain ⟨h, eh⟩ : ∃ x, p.1 = x := ⟨_, rfl⟩
      obtain ⟨lo, el⟩ : ∃ x, p.2 = x := ⟨_, rfl⟩
      rw [eh, el] at J2
      rw [eh] at k1
      rw [el] at k2
      replace hone : Hid _ := hone
      clear hlt hp hdrop hok eC eh el
      obtain ⟨b1, q1⟩ : ∃ b, decide (h < 1) = b := ⟨_, rfl⟩
      obtain ⟨b2, q2⟩ : ∃ b, decide (1048576 < h) = b := ⟨_, rfl⟩
      obtain ⟨b3, q3⟩ : ∃ b, decide (lo < 1) = b := ⟨_, rfl⟩
      obtain ⟨b4, q4⟩ : ∃ b, decide (1048576 < lo) = b := ⟨_, rfl⟩
      rw [q1, q2, q3, q4] at J2
      cases hb : (b1 || b2 || b3 || b4)
      · rw [hb] at J2
        simp only [Bool.or_eq_false_iff] at hb
        obtain ⟨⟨⟨e1, e2⟩, e3⟩, e4⟩ := hb
        subst e1 e2 e3 e4
        go_wp2_with (first
          | ((with_reducible refine at_loadm rtWa g (o + j * 2) C ?_ ?_ (.tmp 21) ?_ ?_ ?_ ?_); exact hc.out; exact hsz.out; kernel_rfl; rfl; rfl)
          | ((with_reducible refine gen_world (y.alloc (.cells #[.int .i64 0, .int .i64 0] 49)) (Fm y [(y.heap.size, #[.int .i64 0, .int .i64 0], 49)]) (Fm.one y _ _) ?_); intro y1 K1)
          | ((with_reducible refine at_st rtWa y.heap.size #[.int .i64 0, .int .i64 0] C ?_ ?_ ?_ ?_ (.tmp 7) (.tmp 22) ?_ ?_ ?_ ?_ ?_); exact K1.out.bx 0 _ _ _ rfl; rfl; exact hsz.out; exact hone.out; rfl; rfl; rfl; rfl; intro y2 hw2; have K2 : Hid (Fm y [(y.heap.size, C, 49)] y2) := K1.out.put 0 _ _ _ _ rfl hw2.out; have d0 := (K2.out.bx 0 _ _ _ rfl).c 0 _ k1.out; have d1 := (K2.out.bx 0 _ _ _ rfl).c 1 _ k2.out))
        go_roundw
        case rel => exact ⟨j + 1, y2, rfl, by simp, ⟨hlt'.out, J2.out⟩, U.out.trans (K2.out.low.mono U.out.size)⟩
        case measure => have := hlt'.out; simp [intOf]; omega
      · have hR1 : Hid (R = ([], 1)) := by
          show _ = _
          rw [← hR.out, if_pos (by rw [J2.out, hb]; rfl)]
        clear J2 J
        cases b1
        · cases b2
          · cases b3
            · cases b4
              · cases hb
              · go_wp2_with (first
                  | ((with_reducible refine at_loadm rtWa g (o + j * 2) C ?_ ?_ (.tmp 21) ?_ ?_ ?_ ?_); exact hc.out; exact hsz.out; kernel_rfl; rfl; rfl)
                  | ((with_reducible refine gen_world (y.alloc (.cells #[.int .i64 0, .int .i64 0] 49)) (Fm y [(y.heap.size, #[.int .i64 0, .int .i64 0], 49)]) (Fm.one y _ _) ?_); intro y1 K1)
                  | ((with_reducible refine at_st rtWa y.heap.size #[.int .i64 0, .int .i64 0] C ?_ ?_ ?_ ?_ (.tmp 7) (.tmp 22) ?_ ?_ ?_ ?_ ?_); exact K1.out.bx 0 _ _ _ rfl; rfl; exact hsz.out; exact hone.out; rfl; rfl; rfl; rfl; intro y2 hw2; have K2 : Hid (Fm y [(y.heap.size, C, 49)] y2) := K1.out.put 0 _ _ _ _ rfl hw2.out; have d0 := (K2.out.bx 0 _ _ _ rfl).c 0 _ k1.out; have d1 := (K2.out.bx 0 _ _ _ rfl).c 1 _ k2.out))
                go_ret2
                exact ⟨.slice none 0 0, by rw [hR1.out]; rfl, by rw [hR1.out]; exact ((KL.nil y2).base (K2.out.low)).base U.out |>.base F0.out.low⟩
            · go_wp2_with (first
                | ((with_reducible refine at_loadm rtWa g (o + j * 2) C ?_ ?_ (.tmp 21) ?_ ?_ ?_ ?_); exact hc.out; exact hsz.out; kernel_rfl; rfl; rfl)
                | ((with_reducible refine gen_world (y.alloc (.cells #[.int .i64 0, .int .i64 0] 49)) (Fm y [(y.heap.size, #[.int .i64 0, .int .i64 0], 49)]) (Fm.one y _ _) ?_); intro y1 K1)
                | ((with_reducible refine at_st rtWa y.heap.size #[.int .i64 0, .int .i64 0] C ?_ ?_ ?_ ?_ (.tmp 7) (.tmp 22) ?_ ?_ ?_ ?_ ?_); exact K1.out.bx 0 _ _ _ rfl; rfl; exact hsz.out; exact hone.out; rfl; rfl; rfl; rfl; intro y2 hw2; have K2 : Hid (Fm y [(y.heap.size, C, 49)] y2) := K1.out.put 0 _ _ _ _ rfl hw2.out; have d0 := (K2.out.bx 0 _ _ _ rfl).c 0 _ k1.out; have d1 := (K2.out.bx 0 _ _ _ rfl).c 1 _ k2.out))
              go_ret2
              exact ⟨.slice none 0 0, by rw [hR1.out]; rfl, by rw [hR1.out]; exact ((KL.nil y2).base (K2.out.low)).base U.out |>.base F0.out.low⟩
          · go_wp2_with (first
              | ((with_reducible refine at_loadm rtWa g (o + j * 2) C ?_ ?_ (.tmp 21) ?_ ?_ ?_ ?_); exact hc.out; exact hsz.out; kernel_rfl; rfl; rfl)
              | ((with_reducible refine gen_world (y.alloc (.cells #[.int .i64 0, .int .i64 0] 49)) (Fm y [(y.heap.size, #[.int .i64 0, .int .i64 0], 49)]) (Fm.one y _ _) ?_); intro y1 K1)
              | ((with_reducible refine at_st rtWa y.heap.size #[.int .i64 0, .int .i64 0] C ?_ ?_ ?_ ?_ (.tmp 7) (.tmp 22) ?_ ?_ ?_ ?_ ?_); exact K1.out.bx 0 _ _ _ rfl; rfl; exact hsz.out; exact hone.out; rfl; rfl; rfl; rfl; intro y2 hw2; have K2 : Hid (Fm y [(y.heap.size, C, 49)] y2) := K1.out.put 0 _ _ _ _ rfl hw2.out; have d0 := (K2.out.bx 0 _ _ _ rfl).c 0 _ k1.out; have d1 := (K2.out.bx 0 _ _ _ rfl).c 1 _ k2.out))
            go_ret2
            exact ⟨.slice none 0 0, by rw [hR1.out]; rfl, by rw [hR1.out]; exact ((KL.nil y2).base (K2.out.low)).base U.out |>.base F0.out.low⟩
        · go_wp2_with (first
            | ((with_reducible refine at_loadm rtWa g (o + j * 2) C ?_ ?_ (.tmp 21) ?_ ?_ ?_ ?_); exact hc.out; exact hsz.out; kernel_rfl; rfl; rfl)
            | ((with_reducible refine gen_world (y.alloc (.cells #[.int .i64 0, .int .i64 0] 49)) (Fm y [(y.heap.size, #[.int .i64 0, .int .i64 0], 49)]) (Fm.one y _ _) ?_); intro y1 K1)
            | ((with_reducible refine at_st rtWa y.heap.size #[.int .i64 0, .int .i64 0] C ?_ ?_ ?_ ?_ (.tmp 7) (.tmp 22) ?_ ?_ ?_ ?_ ?_); exact K1.out.bx 0 _ _ _ rfl; rfl; exact hsz.out; exact hone.out; rfl; rfl; rfl; rfl; intro y2 hw2; have K2 : Hid (Fm y [(y.heap.size, C, 49)] y2) := K1.out.put 0 _ _ _ _ rfl hw2.out; have d0 := (K2.out.bx 0 _ _ _ rfl).c 0 _ k1.out; have d1 := (K2.out.bx 0 _ _ _ rfl).c 1 _ k2.out))
          go_ret2
          exact ⟨.slice none 0 0, by rw [hR1.out]; rfl, by rw [hR1.out]; exact ((KL.nil y2).base (K2.out.low)).base U.out |>.base F0.out.low⟩
    · have hje : j = n := by have := J.out.1; omega
      subst hje
      have hall : Hid (l.all okW = true) := by
        have h := J.out.2
        rw [List.drop_eq_nil_of_le (by rw [hl'.out]; exact Nat.le_refl _)] at h
        exact h
      clear hlt J
      by_cases hbig : 2048 < j
      · have hR1 : Hid (R = ([], 2)) := by
          show _ = _
          rw [← hR.out, if_neg (by rw [hall.out]; decide), if_pos hbig]
        have q : decide ((2048 : Int) < j) = true := by simp; omega
        clear hbig
        go_wp2
        go_ret2
        exact ⟨.slice none 0 0, by rw [hR1.out]; rfl, by rw [hR1.out]; exact ((KL.nil y).base U.out).base F0.out.low⟩
      have hR1 : Hid ((if checkS (spanL l sa) = 0 then (spanL l sa, 0) else ([], checkS (spanL l sa))) = R) := by
        have h := hR.out
        rw [if_neg (by rw [hall.out]; decide), if_neg hbig] at h
        exact h
      have q : decide ((2048 : Int) < j) = false := by simp; omega
      have n2 : Hid (j ≤ 2048) := by show _ ≤ _; omega
      have n2i : (j : Int) ≤ 2048 := by omega
      clear hbig hR hall
      have hs0 : Hid (SC[0]? = some (.int .i64 c0) ∧ SC.size = 10 ∧ SC.all (·.oneCell') = true) := by
        rw [← hSC.out]
        exact ⟨rfl, rfl, spC_one _⟩
      have hs1 : Hid (∀ h, SC.setIfInBounds 0 (.int .i64 h) = spC ⟨h, sa⟩) := fun h => by
        rw [← hSC.out]
        rfl
      have hcK : Hid (∀ (z : World) (v : Value) (c : Nat), KL 37 10 cS y0 v (spanL l sa) z → ∃ sp cap, v = .slice sp (2 * j) cap ∧ Calls Tryd.prog 32 #[.slice sp (2 * j) cap] z fun e w' => e = .returned (.int .i64 (checkS (spanL l sa))) ∧ w' = z) := fun z v _ hz => by
        obtain ⟨sp', cap', e, hL, -⟩ := hz.own.open kSpan.len
        have hlen : (spanL l sa).length = 2 * j := by rw [spanL_len, hl'.out]
        rw [hlen] at e
        have hS : LiesS z sp' (spanL l sa) := hL
        have := rcheck_any z sp' cap' (spanL l sa) hS (by have := n2.out; omega)
        rw [hlen] at this
        exact ⟨sp', cap', e, this⟩
      go_wp2
      go_loopw [8, 9, 10, 11] (fun o' i _ _ wz => ∃ (k : Nat) (v : Value) (y : World), y = wz ∧ v = o' ∧ i = .int .i64 (k : Int) ∧ Hid (k ≤ j) ∧ Hid (KL 37 10 cS y0 v (spanL (l.take k) sa) y)) (fun _ i _ _ _ => (j - intOf i).toNat)
      case atStart => exact ⟨0, .slice none 0 0, y, rfl, rfl, rfl, Nat.zero_le _, by rw [show spanL (l.take 0) sa = [] by simp [spanL]]; exact (KL.nil y).base U.out⟩
      case round =>
        obtain ⟨k, v, y, rfl, rfl, rfl, J, K⟩ := hrel
        by_cases hlt : k < j
        · obtain ⟨p, hp, hdrop⟩ := row_at hl'.out hlt
          have hsn : Hid (spanL (l.take (k + 1)) sa = spanL (l.take k) sa ++ [⟨p.1, tOn sa⟩, ⟨p.2, tOff sa⟩]) := spanL_snoc l sa k p hp
          obtain ⟨g, o, rfl, -, -, -⟩ := l2_at hl.out k p hp
          have hcells : Hid (∀ x : World, L2 x (some ⟨g, o, none⟩) l → x.cell? ⟨g, o + k * 2, none⟩ = some (.int .i64 p.1) ∧ x.cell? ⟨g, o + k * 2 + 1, none⟩ = some (.int .i64 p.2)) := fun x h => by
            obtain ⟨g', o', e, _, h1, h2⟩ := l2_at h k p hp
            cases e
            exact ⟨h1, h2⟩
          have hLy : Hid (L2 y (some ⟨g, o, none⟩) l) := (hl.out.below F0.out.low).below K.out.low
          have ij := fun u => idxP (g := g) (off := o) (len := j) (cap := cap) Tryd.underlying24 (s := 2) (by kernel_rfl) .i64 k u hlt
          have hki : (k : Int) < j := by omega
          have hlt' : Hid (k < j) := hlt
          obtain ⟨h, eh⟩ : ∃ x, p.1 = x := ⟨_, rfl⟩
          obtain ⟨lo, el⟩ : ∃ x, p.2 = x := ⟨_, rfl⟩
          rw [eh, el] at hsn hcells
          have hol : Hid ((spanL (l.take k) sa).length ≤ 4096) := by
            show _ ≤ _
            rw [spanL_len, List.length_take]
            have := n2.out
            omega
          obtain ⟨out, eo⟩ : ∃ x, spanL (l.take k) sa = x := ⟨_, rfl⟩
          rw [eo] at K hol hsn
          have hbs : Hid (Bx y w.heap.size SC 37) := (F0.out.below K.out.low).bx 0 _ _ _ rfl
          clear hlt hp hdrop eh el eo
          go_wp2_with (first
            | ((with_reducible refine gen_world (y.alloc (.cells (spC Z) 37)) (Fm y [(y.heap.size, spC Z, 37)]) (Fm.one y _ _) ?_); intro y1 K1)
            | ((with_reducible refine at_load rtS w.heap.size SC ?_ ?_ (.tmp 3) ?_ ?_ ?_ ?_); exact hbs.out; exact hs0.out.2.1; kernel_rfl; rfl; rfl)
            | ((with_reducible refine at_st rtS y.heap.size (spC Z) SC ?_ ?_ ?_ ?_ (.tmp 10) (.tmp 50) ?_ ?_ ?_ ?_ ?_); exact K1.out.bx 0 _ _ _ rfl; rfl; exact hs0.out.2.1; exact hs0.out.2.2; rfl; rfl; rfl; rfl; intro y2 hw2; have K2 : Hid (Fm y [(y.heap.size, SC, 37)] y2) := K1.out.put 0 _ _ _ _ rfl hw2.out; have d2 := (K2.out.bx 0 _ _ _ rfl).c 0 _ hs0.out.1; have z2 := (K2.out.bx 0 _ _ _ rfl).fz 0; have x2 := (hcells.out y2 (hLy.out.below K2.out.low)).1; refine stopAt ?_))
          refine Stop.go ?_
          go_wp2_with (first
            | ((with_reducible refine gen_world (y2.setCell ⟨y.heap.size, 0, none⟩ (.int .i64 h)) (Fm y [(y.heap.size, spC ⟨h, sa⟩, 37)]) ?_ ?_); exact K2.out.setCell 0 _ _ _ _ rfl 0 _ (hs1.out h); intro y3 K3; have d3 := (K3.out.bx 0 _ _ _ rfl).c 2 _ (spC_Ta ⟨h, sa⟩); have z3 := (K3.out.bx 0 _ _ _ rfl).fz 2)
            | ((with_reducible refine gen_world (y3.setCell ⟨y.heap.size, 2, none⟩ (.bool true)) (Fm y [(y.heap.size, spC ⟨h, tOn sa⟩, 37)]) ?_ ?_); exact K3.out.setCell 0 _ _ _ _ rfl 2 _ rfl; intro y4 K4; have hbs4 : Hid (Bx y4 w.heap.size SC 37) := ((F0.out.below K.out.low).below K4.out.low).bx 0 _ _ _ rfl)
            | ((with_reducible refine gen_world (y4.alloc (.cells (spC Z) 37)) (Fm y [(y.heap.size, spC ⟨h, tOn sa⟩, 37), (y4.heap.size, spC Z, 37)]) ?_ ?_); exact K4.out.new _ _; intro y5 K5)
            | ((with_reducible refine at_load rtS w.heap.size SC ?_ ?_ (.tmp 3) ?_ ?_ ?_ ?_); exact hbs4.out; exact hs0.out.2.1; kernel_rfl; rfl; rfl)
            | ((with_reducible refine at_st rtS y4.heap.size (spC Z) SC ?_ ?_ ?_ ?_ (.tmp 11) (.tmp 58) ?_ ?_ ?_ ?_ ?_); exact K5.out.bx 1 _ _ _ rfl; rfl; exact hs0.out.2.1; exact hs0.out.2.2; rfl; rfl; rfl; rfl; intro y6 hw6; have K6 : Hid (Fm y [(y.heap.size, spC ⟨h, tOn sa⟩, 37), (y4.heap.size, SC, 37)] y6) := K5.out.put 1 _ _ _ _ rfl hw6.out; have d6 := (K6.out.bx 1 _ _ _ rfl).c 0 _ hs0.out.1; have z6 := (K6.out.bx 1 _ _ _ rfl).fz 0; have x6 := (hcells.out y6 (hLy.out.below K6.out.low)).2; refine stopAt ?_))
          refine Stop.go ?_
          go_wp2_with (first
            | ((with_reducible refine gen_world (y6.setCell ⟨y4.heap.size, 0, none⟩ (.int .i64 lo)) (Fm y [(y.heap.size, spC ⟨h, tOn sa⟩, 37), (y4.heap.size, spC ⟨lo, sa⟩, 37)]) ?_ ?_); exact K6.out.setCell 1 _ _ _ _ rfl 0 _ (hs1.out lo); intro y7 K7; have d7 := (K7.out.bx 1 _ _ _ rfl).c 2 _ (spC_Ta ⟨lo, sa⟩); have z7 := (K7.out.bx 1 _ _ _ rfl).fz 2)
            | ((with_reducible refine gen_world (y7.setCell ⟨y4.heap.size, 2, none⟩ (.bool false)) (Fm y [(y.heap.size, spC ⟨h, tOn sa⟩, 37), (y4.heap.size, spC ⟨lo, tOff sa⟩, 37)]) ?_ ?_); exact K7.out.setCell 1 _ _ _ _ rfl 2 _ rfl; intro y8 K8; have M8 : Hid (KL 37 10 cS y0 v out y8) := K.out.below K8.out.low)
            | ((with_reducible refine at_load rtS y.heap.size (spC ⟨h, tOn sa⟩) ?_ ?_ (.tmp 10) ?_ ?_ ?_ ?_); exact K8.out.bx 0 _ _ _ rfl; rfl; kernel_rfl; rfl; rfl)
            | ((with_reducible refine at_load rtS y4.heap.size (spC ⟨lo, tOff sa⟩) ?_ ?_ (.tmp 11) ?_ ?_ ?_ ?_); exact K8.out.bx 1 _ _ _ rfl; rfl; kernel_rfl; rfl; rfl)
            | ((with_reducible refine at_bsS2 ⟨h, tOn sa⟩ ⟨lo, tOff sa⟩ (.tmp 67) (.tmp 68) ?_ ?_ ?_ ?_ ?_); rfl; rfl; rfl; rfl)
            | (at_builtin; refine at_appNL kSpan rfl (.tmp 66) (.tmp 69) rfl y0.heap.size v out rfl (M8.out.own.alloc _) y8.heap.size 0 2 2 [⟨h, tOn sa⟩, ⟨lo, tOff sa⟩] rfl rfl (lies_new kSpan.len _ _ _) (by omega) ?_ ?_ ?_; (have := hol.out; omega); (have := M8.out.low.size; simp; omega); intro v' y9 A; have M9 : Hid (KL 37 10 cS y0 v' (out ++ [⟨h, tOn sa⟩, ⟨lo, tOff sa⟩]) y9) := (M8.out.below ((Below.refl _ _).alloc (Nat.le_refl _) _)).addN A.out; clear A))
          go_roundw
          case rel => exact ⟨k + 1, v', y9, rfl, rfl, by simp, hlt'.out, by rw [hsn.out]; exact M9⟩
          case measure => have := hlt'.out; simp [intOf]; omega
        · have hke : k = j := by have := J.out; omega
          subst hke
          have K2 : Hid (KL 37 10 cS y0 v (spanL l sa) y) := by
            have h := K
            rw [List.take_of_length_le (by rw [hl'.out]; exact Nat.le_refl _)] at h
            exact h
          obtain ⟨sp', cap', rfl, hC⟩ := hcK.out y v 0 K2.out
          obtain ⟨E, eE⟩ : ∃ x, checkS (spanL l sa) = x := ⟨_, rfl⟩
          rw [eE] at hC hR1
          clear hlt K eE hcK
          by_cases h0 : E = 0
          · subst h0
            have hR2 : Hid (R = (spanL l sa, 0)) := by
              have h := hR1.out
              rw [if_pos rfl] at h
              exact h.symm
            go_wp2_with (go_at_call 32; refine hC.mono ?_; rintro e x ⟨rfl, hx⟩; replace hx := hx.symm; subst hx)
            go_ret2
            exact ⟨_, by rw [hR2.out]; rfl, by rw [hR2.out]; exact K2.out.base F0.out.low⟩
          · have hR2 : Hid (R = ([], E)) := by
              have h := hR1.out
              rw [if_neg h0] at h
              exact h.symm
            have qe : (E == 0) = false := by simpa using h0
            clear h0
            go_wp2_with (go_at_call 32; refine hC.mono ?_; rintro e x ⟨rfl, hx⟩; replace hx := hx.symm; subst hx)
            go_ret2
            exact ⟨.slice none 0 0, by rw [hR2.out]; rfl, by rw [hR2.out]; exact ((KL.nil y).base K2.out.low).base F0.out.low⟩
end Go.Proofs.YtdfjfacilbahkaaDoor
