/- As few spans as may be: the program's. -/
import Derived.Test.YthpahpfnpapoiabDoorVc0
namespace Go.Proofs.YthpahpfnpapoiabDoor
open Go Go.RowKit
set_option linter.unusedVariables false
set_option maxHeartbeats 2000000
set_option maxRecDepth 20000

theorem normal_any (w : World) (sp : Option Addr) (cap : Nat) (l : List Sn) (hl : Hid (LiesS w sp l)) (hn : l.length ≤ 2147483647) :
    Calls Tryd.prog 16 #[.slice sp l.length cap] w fun e w' => ∃ v, e = .returned (.tuple #[v, .int .i64 (checkS l)]) ∧ Hid (Ct w v (.slice none 0 0) (normS l) [] [] w') := by
  have hC := check_any w sp cap l hl hn
  obtain ⟨n, hn'⟩ : ∃ n, l.length = n := ⟨_, rfl⟩
  have ni : (n : Int) ≤ 2147483647 := by omega
  have C0 : Hid (Ct w (.slice none 0 0) (.slice none 0 0) [] [] [] w) := Ct.nil w
  by_cases h0 : ¬ checkS l = 0
  · rw [show normS l = [] by unfold normS; rw [if_neg h0]]
    obtain ⟨X, hX⟩ : ∃ C, checkS l = C := ⟨_, rfl⟩
    rw [hX] at hC h0 ⊢
    rw [hn'] at hC ⊢
    have q : (X != 0) = true := by simpa using h0
    clear h0 hX hn hn'
    go_enter Tryd.func16, Tryd.ntmps16
    go_wp2_with (go_at_call 12; refine hC.mono ?_; rintro e x ⟨rfl, hx⟩)
    go_ret2
    exact ⟨_, rfl, C0.out.below hx⟩
  replace h0 : checkS l = 0 := Decidable.of_not_not h0
  obtain ⟨k1, k2, k3⟩ := check_ok h0
  have hNl0 := (nrm_len 1048576 (by decide) l k2).2
  rw [show normS l = nrm 1048576 none l by unfold normS; rw [if_pos h0]]
  obtain ⟨NN, hNN⟩ : ∃ x, nrm 1048576 none l = x := ⟨_, rfl⟩
  rw [hNN] at hNl0 ⊢
  rw [h0, hn'] at hC
  rw [h0, hn']
  rw [hn'] at hNl0
  have hNl : Hid (NN.length ≤ n) := hNl0
  have hNN' : Hid (nrm 1048576 none l = NN) := hNN
  have hl' : Hid (l.length = n) := hn'
  have hn4 : Hid (n ≤ 4096) := by show n ≤ 4096; omega
  have hIn : Hid (InM 1048576 l ∧ sumC l ≤ 4194304) := ⟨k2, k3⟩
  have ni4 : (n : Int) ≤ 4096 := by omega
  have zz := zeroVS
  obtain ⟨Z, hZ⟩ : ∃ Z, (⟨0, ⟨0, false, false, false, false, false, false, false, 0⟩⟩ : Sn) = Z := ⟨_, rfl⟩
  rw [hZ] at zz
  clear h0 hn hn' k1 k2 k3 hNN hNl0 ni hZ
  go_enter Tryd.func16, Tryd.ntmps16
  go_wp2_with (go_at_call 12; refine hC.mono ?_; rintro e x ⟨rfl, hx⟩)
  have hx : Hid (Below w.heap.size w x) := hx
  go_loopw [5, 18] (fun f i wz => ∃ (j : Nat) (va : Value) (O : List Sn) (y : World), y = wz ∧ va = f ∧ i = .int .i64 (j : Int) ∧ Hid (j ≤ n ∧ O.length ≤ j ∧ NSt NN O (l.drop j)) ∧ Hid (Ct w va (.slice none 0 0) O [] [] y)) (fun _ i _ => (n - intOf i).toNat)
  case atStart => exact ⟨0, _, [], x, rfl, rfl, rfl, ⟨by omega, Nat.le_refl _, .inl ⟨rfl, hNN'.out.symm⟩⟩, C0.out.below hx.out⟩
  case round =>
    obtain ⟨j, va, O, y, rfl, rfl, rfl, J, K⟩ := hrel
    clear C0 hC
    by_cases hlt : j < n
    · obtain ⟨s, hs, hdrop⟩ := at_list hl'.out hlt
      obtain ⟨gb, ob, hspe, hR⟩ := hl.out j s hs
      subst hspe
      obtain ⟨c, sa⟩ := s
      have hR : Hid (w.rangeAt gb (ob + j * 10) (spC ⟨c, sa⟩).toList) := hR
      have ij := fun v => idxP (g := gb) (off := ob) (len := n) (cap := cap) Tryd.underlying22 (s := 10) (by kernel_rfl) .i64 j v hlt
      have hd := drop_in hIn.out.1 j
      rw [hdrop] at hd
      have c1 : 1 ≤ c := hd.1.1
      have c2 : c ≤ 1048576 := hd.1.2
      have hji : (j : Int) < n := by omega
      have hlt' : Hid (j < n) := hlt
      obtain ⟨_, hOl, hN⟩ := J.out
      rw [hdrop] at hN
      have hO4 : O.length ≤ 4096 := by have := hn4.out; omega
      have hOl : Hid (O.length ≤ j) := hOl
      replace hs : Hid _ := hs
      replace hdrop : Hid _ := hdrop
      clear hd hlt J
      rcases hN with ⟨hO, hN⟩ | ⟨O', d, b, hO, hdd, hN⟩
      · subst hO
        have fin : Hid (NSt NN [⟨c, sa⟩] (l.drop (j + 1))) := nst_nil ⟨c1, c2⟩ hN
        obtain ⟨sp, cp, rfl, _, _⟩ := OwnS.open K.out.oa
        have hM : Hid (∀ y2, OwnS w.heap.size y2 (.slice sp 0 cp) [] → w.heap.size ≤ y2.heap.size → Calls Tryd.prog 27 #[.slice sp 0 cp, .agg (spC ⟨c, sa⟩), .int .i64 c] y2 fun e w' => ∃ v', e = .returned v' ∧ Hid (∃ x, Below y2.heap.size y2 x ∧ App1 w.heap.size (.slice sp 0 cp) [] ⟨c, sa⟩ v' x w')) := fun y2 k h => lay_more y2 w.heap.size h _ [] k (by decide) ⟨c, sa⟩ c (by omega)
        clear hN
        have K : Hid (Ct w (.slice sp 0 cp) (.slice none 0 0) [] [] [] y) := K
        go_wp2_with (first
        | ((with_reducible refine at_loadm rtS gb (ob + j * 10) (spC ⟨c, sa⟩) ?_ ?_ (.tmp 20) ?_ ?_ ?_ ?_); exact range_keep hR.out K.out.fm.low; rfl; kernel_rfl; rfl; rfl)
        | ((with_reducible refine gen_world (y.alloc (.cells (spC Z) 43)) (Ct w (.slice sp 0 cp) (.slice none 0 0) ([]) [] [(y.heap.size, spC Z, 43)]) ?_ ?_); exact K.out.new _ _; intro y1 K1)
        | ((with_reducible refine at_st rtS y.heap.size (spC Z) (spC ⟨c, sa⟩) ?_ ?_ ?_ ?_ (.tmp 7) (.tmp 21) ?_ ?_ ?_ ?_ ?_); exact K1.out.fm.bx 0 _ _ _ rfl; rfl; rfl; exact spC_one _; rfl; rfl; rfl; rfl; intro y2 hw2; have K2 : Hid (Ct w (.slice sp 0 cp) (.slice none 0 0) ([]) [] [(y.heap.size, spC ⟨c, sa⟩, 43)] y2) := K1.out.put 0 _ _ _ _ rfl hw2.out; have d2 := (K2.out.fm.bx 0 _ _ _ rfl).c 0 _ (spC_c ⟨c, sa⟩); dsimp only at d2))
        obtain ⟨b7, hb7⟩ : ∃ b, y.heap.size = b := ⟨_, rfl⟩
        rw [hb7] at K2
        rw [hb7]
        refine region_class_tail 9 (Ct w (.slice sp 0 cp) (.slice none 0 0) [] [] [(b7, spC ⟨c, sa⟩, 43)]) (by kernel_rfl) (by kernel_rfl) (K2.out.below (below_drew (Below.refl _ _))) ?_
        simp only [List.take_succ_cons, List.take_zero, List.drop_succ_cons, List.drop_zero]
        with_reducible refine quiet_one (.int .i64 (-1)) ?_ ?_ ?_
        · kernel_rfl
        · intro u hu
          go_simp
        with_reducible refine quiet_one (.bool false) ?_ ?_ ?_
        · kernel_rfl
        · intro u hu
          go_simp
        with_reducible refine quiet_one (.bool false) ?_ ?_ ?_
        · kernel_rfl
        · intro u hu
          go_simp
        iterate 6
          with_reducible refine quiet_skip ?_ ?_
          · kernel_rfl
        refine wpQuiet_nil ?_
        intro y4 K4
        replace K4 : Hid _ := K4
        go_simp
        go_wp2_with (first
          | ((with_reducible refine at_load rtS b7 (spC ⟨c, sa⟩) ?_ ?_ (.tmp 7) ?_ ?_ ?_ ?_); exact K4.out.fm.bx 0 _ _ _ rfl; rfl; kernel_rfl; rfl; rfl)
          | (go_at_call 27; refine (hM.out _ K4.out.oa K4.out.fm.low.size).mono ?_; rintro e y9 ⟨va', rfl, H9⟩; have K9 : Hid (Ct w va' (.slice none 0 0) (([]) ++ [⟨c, sa⟩]) [] [(b7, spC ⟨c, sa⟩, 43)] y9) := (by obtain ⟨x, h1, h2⟩ := H9.out; exact K4.out.appA2 h1 h2)))
        go_roundw
        case rel => exact ⟨j + 1, va', [⟨c, sa⟩], _, rfl, rfl, by simp, ⟨by have := hlt'.out; omega, by simp, fin.out⟩, (by exact K9.out.pre (bs := []))⟩
        case measure => have := hlt'.out; simp [intOf]; omega
      · subst hO
        obtain ⟨sp, cp, hva, hL, hsp, _⟩ := OwnS.open K.out.oa
        obtain ⟨k, hk⟩ : ∃ k, O'.length = k := ⟨_, rfl⟩
        have hln : (O' ++ [(⟨d, b⟩ : Sn)]).length = k + 1 := by rw [List.length_append, hk]; rfl
        obtain ⟨g, ob2, e2, _⟩ := hL k ⟨d, b⟩ (by rw [← hk]; simp)
        have e3 := hsp _ e2
        have eo : ob2 = 0 := e3.1
        subst eo
        rw [e2, hln] at hva
        subst hva
        have kb : k ≤ 4096 := by have h := hO4; rw [hln] at h; omega
        have hk : Hid (O'.length = k) := hk
        have hrow : Hid (∀ u bs, Ct w (.slice (some ⟨g, 0, none⟩) (k + 1) cp) (.slice none 0 0) (O' ++ [⟨d, b⟩]) [] bs u → u.rangeAt g (k * 10) (spC ⟨d, b⟩).toList) := fun u bs hu => by
          obtain ⟨sp', cp', hv', hL', _, _⟩ := OwnS.open hu.oa
          injection hv' with e1 _ _
          obtain ⟨g', o', e', h'⟩ := hL' k ⟨d, b⟩ (by rw [← hk.out]; simp)
          rw [← e1] at e'
          cases e'
          rw [Nat.zero_add] at h'
          exact h'
        have ik : ∀ v, (Instr.indexAt 22 (.slice (some ⟨g, 0, none⟩) (k + 1) cp) (.int .i64 (k : Int))).run Tryd.prog v = .ok (.pointer (some ⟨g, k * 10, none⟩)) v := fun v => by
          have := idxP (g := g) (off := 0) (len := k + 1) (cap := cp) Tryd.underlying22 (s := 10) (by kernel_rfl) .i64 k v (by omega)
          rw [Nat.zero_add] at this
          exact this
        have hLk := fun v => alike_any v ⟨d, b⟩ ⟨c, sa⟩
        obtain ⟨tt, htt⟩ : ∃ t, atB b sa = t := ⟨_, rfl⟩
        dsimp only at hLk
        rw [htt] at hLk
        have d1 : 1 ≤ d := hdd.1
        have d2' : d ≤ 1048576 := hdd.2
        have hN : Hid (NN = O' ++ nrm 1048576 (some (b, d.toNat)) (⟨c, sa⟩ :: l.drop (j + 1))) := hN
        have htt : Hid (atB b sa = tt) := htt
        have k0 : (0 : Int) ≤ (k : Int) := by omega
        have ki : (k : Int) ≤ 4096 := by omega
        clear e2 e3 hL hsp hln hO4 hdd
        have K : Hid (Ct w (.slice (some ⟨g, 0, none⟩) (k + 1) cp) (.slice none 0 0) (O' ++ [⟨d, b⟩]) [] [] y) := K
        go_wp2_with (first
        | ((with_reducible refine at_loadm rtS gb (ob + j * 10) (spC ⟨c, sa⟩) ?_ ?_ (.tmp 20) ?_ ?_ ?_ ?_); exact range_keep hR.out K.out.fm.low; rfl; kernel_rfl; rfl; rfl)
        | ((with_reducible refine gen_world (y.alloc (.cells (spC Z) 43)) (Ct w (.slice (some ⟨g, 0, none⟩) (k + 1) cp) (.slice none 0 0) (O' ++ [⟨d, b⟩]) [] [(y.heap.size, spC Z, 43)]) ?_ ?_); exact K.out.new _ _; intro y1 K1)
        | ((with_reducible refine at_st rtS y.heap.size (spC Z) (spC ⟨c, sa⟩) ?_ ?_ ?_ ?_ (.tmp 7) (.tmp 21) ?_ ?_ ?_ ?_ ?_); exact K1.out.fm.bx 0 _ _ _ rfl; rfl; rfl; exact spC_one _; rfl; rfl; rfl; rfl; intro y2 hw2; have K2 : Hid (Ct w (.slice (some ⟨g, 0, none⟩) (k + 1) cp) (.slice none 0 0) (O' ++ [⟨d, b⟩]) [] [(y.heap.size, spC ⟨c, sa⟩, 43)] y2) := K1.out.put 0 _ _ _ _ rfl hw2.out; have d2 := (K2.out.fm.bx 0 _ _ _ rfl).c 0 _ (spC_c ⟨c, sa⟩); dsimp only at d2))
        obtain ⟨b7, hb7⟩ : ∃ b, y.heap.size = b := ⟨_, rfl⟩
        rw [hb7] at K2
        rw [hb7]
        refine region_class_tail 9 (Ct w (.slice (some ⟨g, 0, none⟩) (k + 1) cp) (.slice none 0 0) (O' ++ [⟨d, b⟩]) [] [(b7, spC ⟨c, sa⟩, 43)]) (by kernel_rfl) (by kernel_rfl) (K2.out.below (below_drew (Below.refl _ _))) ?_
        simp only [List.take_succ_cons, List.take_zero, List.drop_succ_cons, List.drop_zero]
        with_reducible refine quiet_one (.int .i64 (k : Int)) ?_ ?_ ?_
        · kernel_rfl
        · intro u hu
          go_simp
        with_reducible refine quiet_one (.bool true) ?_ ?_ ?_
        · kernel_rfl
        · intro u hu
          go_simp
        with_reducible refine quiet_one (.bool true) ?_ ?_ ?_
        · kernel_rfl
        · intro u hu
          go_simp
        with_reducible refine quiet_one (.slice (some ⟨g, 0, none⟩) (k + 1) cp) ?_ ?_ ?_
        · kernel_rfl
        · intro u hu
          go_simp
        with_reducible refine quiet_one (.int .i64 (k : Int)) ?_ ?_ ?_
        · kernel_rfl
        · intro u hu
          go_simp
        with_reducible refine quiet_one (.pointer (some ⟨g, k * 10, none⟩)) ?_ ?_ ?_
        · kernel_rfl
        · intro u hu
          go_simp
        with_reducible refine quiet_one (.agg (spC ⟨d, b⟩)) ?_ ?_ ?_
        · kernel_rfl
        · intro u hu
          generalize ha : Act.put _ _ _ = a
          have e32 : a.eval (.tmp 32) = .pointer (some ⟨g, k * 10, none⟩) := by rw [← ha]; go_simp
          clear ha
          refine q_loadm (C := Ct w (.slice (some ⟨g, 0, none⟩) (k + 1) cp) (.slice none 0 0) (O' ++ [⟨d, b⟩]) [] [(b7, spC ⟨c, sa⟩, 43)]) rtS g (k * 10) (spC ⟨d, b⟩) (fun u hu => hrow.out u _ hu) rfl (.tmp 32) ?_ e32 u hu
          rfl
        with_reducible refine quiet_one (.agg (spC ⟨c, sa⟩)) ?_ ?_ ?_
        · kernel_rfl
        · intro u hu
          generalize ha : Act.put _ _ _ = a
          have e7 : a.eval (.tmp 7) = .pointer (some ⟨b7, 0, none⟩) := by rw [← ha]; go_simp
          clear ha
          refine q_load (C := Ct w (.slice (some ⟨g, 0, none⟩) (k + 1) cp) (.slice none 0 0) (O' ++ [⟨d, b⟩]) [] [(b7, spC ⟨c, sa⟩, 43)]) rtS b7 (spC ⟨c, sa⟩) (fun u hu => hu.fm.bx 0 _ _ _ rfl) rfl (.tmp 7) ?_ e7 u hu
          rfl
        with_reducible refine quiet_one (.bool tt) ?_ ?_ ?_
        · kernel_rfl
        · intro u hu
          have d := (hLk u).mono fun e w' (h : _ ∧ _) => And.intro h.1 (hu.below h.2)
          go_simp
          all_goals exact d
        refine wpQuiet_nil ?_
        intro y4 K4
        replace K4 : Hid _ := K4
        go_simp
        cases tt with
        | false =>
          have fin : Hid (NSt NN ((O' ++ [⟨d, b⟩]) ++ [⟨c, sa⟩]) (l.drop (j + 1))) := nst_new ⟨c1, c2⟩ ⟨d1, d2'⟩ hN.out htt.out
          have hM : Hid (∀ y2, OwnS w.heap.size y2 (.slice (some ⟨g, 0, none⟩) (k + 1) cp) (O' ++ [⟨d, b⟩]) → w.heap.size ≤ y2.heap.size → Calls Tryd.prog 27 #[.slice (some ⟨g, 0, none⟩) (k + 1) cp, .agg (spC ⟨c, sa⟩), .int .i64 c] y2 fun e w' => ∃ v', e = .returned v' ∧ Hid (∃ x, Below y2.heap.size y2 x ∧ App1 w.heap.size (.slice (some ⟨g, 0, none⟩) (k + 1) cp) (O' ++ [⟨d, b⟩]) ⟨c, sa⟩ v' x w')) := fun y2 kk h => lay_more y2 w.heap.size h _ _ kk (by rw [List.length_append, hk.out]; simp; omega) ⟨c, sa⟩ c (by omega)
          clear hN htt
          go_wp2_with (first
            | ((with_reducible refine at_load rtS b7 (spC ⟨c, sa⟩) ?_ ?_ (.tmp 7) ?_ ?_ ?_ ?_); exact K4.out.fm.bx 0 _ _ _ rfl; rfl; kernel_rfl; rfl; rfl)
            | (go_at_call 27; refine (hM.out _ K4.out.oa K4.out.fm.low.size).mono ?_; rintro e y9 ⟨va', rfl, H9⟩; have K9 : Hid (Ct w va' (.slice none 0 0) ((O' ++ [⟨d, b⟩]) ++ [⟨c, sa⟩]) [] [(b7, spC ⟨c, sa⟩, 43)] y9) := (by obtain ⟨x, h1, h2⟩ := H9.out; exact K4.out.appA2 h1 h2)))
          go_roundw
          case rel => exact ⟨j + 1, va', (O' ++ [⟨d, b⟩]) ++ [⟨c, sa⟩], _, rfl, rfl, by simp, ⟨by have := hlt'.out; omega, by have := hOl.out; simp at this ⊢; omega, fin.out⟩, (by exact K9.out.pre (bs := []))⟩
          case measure => have := hlt'.out; simp [intOf]; omega
        | true =>
          have hc0 := rangeC (hrow.out _ _ K4.out) 0 _ (spC_c ⟨d, b⟩)
          rw [Nat.add_zero] at hc0
          dsimp only at hc0
          have hz0 : y4.frozen? ⟨g, k * 10, none⟩ = false := by
            rcases K4.out.oa.2 with ⟨hv, _⟩ | ⟨g', cap', cur, hv, _, hg', _⟩
            · cases hv
            · injection hv with e1 _ _
              cases e1
              exact frozen_heap hg' _
          by_cases hfit : d + c ≤ 1048576
          · have fin : Hid (NSt NN (O' ++ [⟨d + c, b⟩]) (l.drop (j + 1))) := nst_fit ⟨c1, c2⟩ ⟨d1, d2'⟩ hN.out htt.out hfit
            have hZ0 := fun y2 => lay_zero y2 (.slice (some ⟨g, 0, none⟩) (k + 1) cp) ⟨c, sa⟩
            clear hN htt
            rcases Int.lt_or_eq_of_le (show c ≤ 1048576 - d by omega) with hcc | hcc
            · have hst := K4.out.setc (d + c)
              rw [hk.out] at hst
              have hst : Hid _ := hst
              go_wp2_with (first
                | ((with_reducible refine gen_world (y4.setCell ⟨g, k * 10, none⟩ (.int .i64 (d + c))) (Ct w (.slice (some ⟨g, 0, none⟩) (k + 1) cp) (.slice none 0 0) (O' ++ [⟨d + c, b⟩]) [] [(b7, spC ⟨c, sa⟩, 43)]) hst.out ?_); intro y5 K5)
                | ((with_reducible refine at_load rtS b7 (spC ⟨c, sa⟩) ?_ ?_ (.tmp 7) ?_ ?_ ?_ ?_); exact K5.out.fm.bx 0 _ _ _ rfl; rfl; kernel_rfl; rfl; rfl)
                | (go_at_call 27; refine (hZ0 y5).mono ?_; rintro e y9 ⟨rfl, H9⟩; have K9 : Hid (Ct w (.slice (some ⟨g, 0, none⟩) (k + 1) cp) (.slice none 0 0) (O' ++ [⟨d + c, b⟩]) [] [(b7, spC ⟨c, sa⟩, 43)] y9) := K5.out.below H9))
              go_roundw
              case rel => exact ⟨j + 1, _, O' ++ [⟨d + c, b⟩], _, rfl, rfl, by simp, ⟨by have := hlt'.out; omega, by have := hOl.out; simp at this ⊢; omega, fin.out⟩, (by exact K9.out.pre (bs := []))⟩
              case measure => have := hlt'.out; simp [intOf]; omega
            · subst hcc
              have hst := K4.out.setc (d + (1048576 - d))
              rw [hk.out] at hst
              have hst : Hid _ := hst
              go_wp2_with (first
                | ((with_reducible refine gen_world (y4.setCell ⟨g, k * 10, none⟩ (.int .i64 (d + (1048576 - d)))) (Ct w (.slice (some ⟨g, 0, none⟩) (k + 1) cp) (.slice none 0 0) (O' ++ [⟨d + (1048576 - d), b⟩]) [] [(b7, spC ⟨1048576 - d, sa⟩, 43)]) hst.out ?_); intro y5 K5)
                | ((with_reducible refine at_load rtS b7 (spC ⟨1048576 - d, sa⟩) ?_ ?_ (.tmp 7) ?_ ?_ ?_ ?_); exact K5.out.fm.bx 0 _ _ _ rfl; rfl; kernel_rfl; rfl; rfl)
                | (go_at_call 27; refine (hZ0 y5).mono ?_; rintro e y9 ⟨rfl, H9⟩; have K9 : Hid (Ct w (.slice (some ⟨g, 0, none⟩) (k + 1) cp) (.slice none 0 0) (O' ++ [⟨d + (1048576 - d), b⟩]) [] [(b7, spC ⟨1048576 - d, sa⟩, 43)] y9) := K5.out.below H9))
              go_roundw
              case rel => exact ⟨j + 1, _, O' ++ [⟨d + (1048576 - d), b⟩], _, rfl, rfl, by simp, ⟨by have := hlt'.out; omega, by have := hOl.out; simp at this ⊢; omega, fin.out⟩, (by exact K9.out.pre (bs := []))⟩
              case measure => have := hlt'.out; simp [intOf]; omega
          · have fin : Hid (NSt NN ((O' ++ [⟨1048576, b⟩]) ++ [⟨c - (1048576 - d), sa⟩]) (l.drop (j + 1))) := nst_over ⟨c1, c2⟩ ⟨d1, d2'⟩ hN.out htt.out hfit
            have hcc : 1048576 - d < c := by omega
            have hst := K4.out.setc (d + (1048576 - d))
            rw [hk.out] at hst
            have hst : Hid _ := hst
            have hM : Hid (∀ y2, OwnS w.heap.size y2 (.slice (some ⟨g, 0, none⟩) (k + 1) cp) (O' ++ [⟨d + (1048576 - d), b⟩]) → w.heap.size ≤ y2.heap.size → Calls Tryd.prog 27 #[.slice (some ⟨g, 0, none⟩) (k + 1) cp, .agg (spC ⟨c, sa⟩), .int .i64 (c - (1048576 - d))] y2 fun e w' => ∃ v', e = .returned v' ∧ Hid (∃ x, Below y2.heap.size y2 x ∧ App1 w.heap.size (.slice (some ⟨g, 0, none⟩) (k + 1) cp) (O' ++ [⟨d + (1048576 - d), b⟩]) ⟨c - (1048576 - d), sa⟩ v' x w')) := fun y2 kk h => lay_more y2 w.heap.size h _ _ kk (by rw [List.length_append, hk.out]; simp; omega) ⟨c, sa⟩ (c - (1048576 - d)) (by omega)
            have ed : Hid (d + (1048576 - d) = 1048576) := by show _ = _; omega
            clear hN htt
            go_wp2_with (first
              | ((with_reducible refine gen_world (y4.setCell ⟨g, k * 10, none⟩ (.int .i64 (d + (1048576 - d)))) (Ct w (.slice (some ⟨g, 0, none⟩) (k + 1) cp) (.slice none 0 0) (O' ++ [⟨d + (1048576 - d), b⟩]) [] [(b7, spC ⟨c, sa⟩, 43)]) hst.out ?_); intro y5 K5)
              | ((with_reducible refine at_load rtS b7 (spC ⟨c, sa⟩) ?_ ?_ (.tmp 7) ?_ ?_ ?_ ?_); exact K5.out.fm.bx 0 _ _ _ rfl; rfl; kernel_rfl; rfl; rfl)
              | (go_at_call 27; refine (hM.out _ K5.out.oa K5.out.fm.low.size).mono ?_; rintro e y9 ⟨va', rfl, H9⟩; have K9 : Hid (Ct w va' (.slice none 0 0) ((O' ++ [⟨d + (1048576 - d), b⟩]) ++ [⟨c - (1048576 - d), sa⟩]) [] [(b7, spC ⟨c, sa⟩, 43)] y9) := (by obtain ⟨x, h1, h2⟩ := H9.out; exact K5.out.appA2 h1 h2)))
            rw [ed.out] at K9
            go_roundw
            case rel => exact ⟨j + 1, va', (O' ++ [⟨1048576, b⟩]) ++ [⟨c - (1048576 - d), sa⟩], _, rfl, rfl, by simp, ⟨by have := hlt'.out; omega, by have := hOl.out; simp at this ⊢; omega, fin.out⟩, (by exact K9.out.pre (bs := []))⟩
            case measure => have := hlt'.out; simp [intOf]; omega
    · have hje : j = n := by have := J.out.1; omega
      subst hje
      have fin : Hid (NN = O) := by
        have h1 := J.out.2.2
        rw [List.drop_eq_nil_of_le (by rw [hl'.out]; exact Nat.le_refl _)] at h1
        exact h1.end
      obtain rfl := fin.out
      clear hlt fin hNN' J
      go_wp2
      go_ret2
      exact ⟨_, rfl, K⟩
end Go.Proofs.YthpahpfnpapoiabDoor
