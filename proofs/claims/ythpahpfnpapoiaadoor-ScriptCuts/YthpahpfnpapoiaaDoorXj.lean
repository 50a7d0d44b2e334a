/- As few spans as may be, by the document. -/
import Derived.Test.YthpahpfnpapoiaaDoorXh
namespace Go.Proofs.YthpahpfnpapoiaaDoor
open Go Go.RowKit
set_option linter.unusedVariables false
set_option maxHeartbeats 1000000
set_option maxRecDepth 20000

theorem emitN_fuel (M : Nat) (hM : 0 < M) (a : At) : ∀ f g n, n ≤ f → n ≤ g → emitN M a f n = emitN M a g n := by
  intro f
  induction f with
  | zero =>
    intro g n hf hg
    have : n = 0 := by omega
    subst this
    cases g <;> simp [emitN]
  | succ f ih =>
    intro g n hf hg
    cases g with
    | zero =>
      have : n = 0 := by omega
      subst this
      simp [emitN]
    | succ g =>
      unfold emitN
      split
      · rfl
      · rw [ih g (n - min n M) (by omega) (by omega)]
theorem emit_step (M : Nat) (hM : 0 < M) (a : At) (n : Nat) (hn : 0 < n) : emit M a n = ⟨(min n M : Nat), a⟩ :: emit M a (n - min n M) := by
  unfold emit
  obtain ⟨m, rfl⟩ : ∃ m, n = m + 1 := ⟨n - 1, by omega⟩
  rw [show emitN M a (m + 1) (m + 1) = ⟨(min (m + 1) M : Nat), a⟩ :: emitN M a m (m + 1 - min (m + 1) M) by
    conv => lhs; unfold emitN
    rw [if_neg (by omega)]]
  congr 1
  exact emitN_fuel M hM a _ _ _ (by omega) (Nat.le_refl _)
theorem nrm_zero (M : Nat) (c : Int) (a : At) (l : List Sn) : nrm M none (⟨c, a⟩ :: l) = nrm M (some (a, 0)) (⟨c, a⟩ :: l) := by
  simp only [nrm]
  rw [if_pos (atB_self a), Nat.zero_add]
def normS (l : List Sn) : List Sn := if checkS l = 0 then nrm 1048576 none l else []
theorem rnormal_any (w : World) (sp : Option Addr) (cap : Nat) (l : List Sn) (hl : Hid (LiesS w sp l)) (hn : l.length ≤ 9223372036854775807) :
    Calls Tryd.prog 25 #[.slice sp l.length cap] w fun e w' => ∃ v, e = .returned (.tuple #[v, .int .i64 (checkS l)]) ∧ Hid (Ct w v (.slice none 0 0) (normS l) [] [] w') := by
  have hC := rcheck_any w sp cap l hl hn
  obtain ⟨n, hn'⟩ : ∃ n, l.length = n := ⟨_, rfl⟩
  have ni : (n : Int) ≤ 9223372036854775807 := by omega
  have C0 : Hid (Ct w (.slice none 0 0) (.slice none 0 0) [] [] [] w) := Ct.nil w
  by_cases h0 : ¬ checkS l = 0
  · rw [show normS l = [] by unfold normS; rw [if_neg h0]]
    obtain ⟨X, hX⟩ : ∃ C, checkS l = C := ⟨_, rfl⟩
    rw [hX] at hC h0 ⊢
    rw [hn'] at hC ⊢
    have q : (X != 0) = true := by simpa using h0
    clear h0 hX hn hn'
    go_enter Tryd.func25, Tryd.ntmps25
    go_wp2_with (go_at_call 14; refine hC.mono ?_; rintro e x ⟨rfl, hx⟩; replace hx := hx.symm; subst hx)
    go_ret2
    exact ⟨_, rfl, C0⟩
  replace h0 : checkS l = 0 := Decidable.of_not_not h0
  obtain ⟨k1, k2, k3⟩ := check_ok h0
  have hNl0 := (nrm_len 1048576 (by decide) l k2).2
  rw [show normS l = nrm 1048576 none l by unfold normS; rw [if_pos h0]]
  obtain ⟨NN, hNN⟩ : ∃ x, nrm 1048576 none l = x := ⟨_, rfl⟩
  rw [hNN] at hNl0 ⊢
  rw [h0, hn'] at hC
  rw [h0, hn']
  rw [hn'] at hNl0
  have hNl : Hid (NN.length ≤ n) := hNl0
  have hNN' : Hid (nrm 1048576 none l = NN) := hNN
  have hl' : Hid (l.length = n) := hn'
  have hn4 : Hid (n ≤ 4096) := by show n ≤ 4096; omega
  have hIn : Hid (InM 1048576 l ∧ sumC l ≤ 4194304) := ⟨k2, k3⟩
  have ni4 : (n : Int) ≤ 4096 := by omega
  have zz := zeroVS
  obtain ⟨Z, hZ⟩ : ∃ Z, (⟨0, ⟨0, false, false, false, false, false, false, false, 0⟩⟩ : Sn) = Z := ⟨_, rfl⟩
  rw [hZ] at zz
  clear h0 hn hn' k1 k2 k3 hNN hNl0 ni hZ
  go_enter Tryd.func25, Tryd.ntmps25
  go_wp2_with (go_at_call 14; refine hC.mono ?_; rintro e x ⟨rfl, hx⟩; replace hx := hx.symm; subst hx)
  go_loopw [5, 6] (fun o i wz => ∃ (j : Nat) (va : Value) (O : List Sn) (y : World), y = wz ∧ va = o ∧ i = .int .i64 (j : Int) ∧ Hid (j ≤ n ∧ NN = O ++ nrm 1048576 none (l.drop j)) ∧ Hid (Ct w va (.slice none 0 0) O [] [] y)) (fun _ i _ => (n - intOf i).toNat)
  case atStart => exact ⟨0, _, [], w, rfl, rfl, rfl, ⟨by omega, hNN'.out.symm⟩, C0⟩
  case round =>
    obtain ⟨i, va, O, y0, rfl, rfl, rfl, J0, K0⟩ := hrel
    clear C0 hC
    by_cases hlt0 : i < n
    · obtain ⟨s, hs, hdrop⟩ := at_list hl'.out hlt0
      obtain ⟨gb, ob, hsp, hR⟩ := hl.out i s hs
      obtain ⟨c, sa⟩ := s
      subst hsp
      have hR : Hid (w.rangeAt gb (ob + i * 10) (spC ⟨c, sa⟩).toList) := hR
      have ij := fun v => idxP (g := gb) (off := ob) (len := n) (cap := cap) Tryd.underlying23 (s := 10) (by kernel_rfl) .i64 i v hlt0
      have hji : (i : Int) < n := by omega
      have hi' : Hid (i < n) := hlt0
      have J1 : Hid (NN = O ++ nrm 1048576 (some (sa, 0)) (l.drop i)) := by
        have := J0.out.2
        rw [hdrop, nrm_zero] at this
        rw [hdrop]
        exact this
      replace hs : Hid _ := hs
      replace hdrop : Hid _ := hdrop
      clear hlt0
      go_wp2
      go_loopw [7, 8] (fun t kk wz => ∃ (k u : Nat) (y : World), y = wz ∧ t = .int .i64 (u : Int) ∧ kk = .int .i64 (k : Int) ∧ Hid (i ≤ k ∧ k ≤ n ∧ (i < k → 0 < u) ∧ u ≤ 1048576 * (k - i) ∧ NN = O ++ nrm 1048576 (some (sa, u)) (l.drop k)) ∧ Hid (Ct w va (.slice none 0 0) O [] [] y)) (fun _ kk _ => (n - intOf kk).toNat)
      case atStart => exact ⟨i, 0, _, rfl, rfl, rfl, ⟨Nat.le_refl _, by have := hi'.out; omega, fun h => absurd h (Nat.lt_irrefl _), by omega, J1.out⟩, K0⟩
      case round =>
        obtain ⟨k, u, y, rfl, rfl, rfl, J, K⟩ := hrel
        clear K0 J1
        by_cases hlt : k < n
        · obtain ⟨t, ht, hdt⟩ := at_list hl'.out hlt
          obtain ⟨gb', ob', e', hQ⟩ := hl.out k t ht
          cases e'
          obtain ⟨d, sd⟩ := t
          have hQ : Hid (w.rangeAt gb (ob + k * 10) (spC ⟨d, sd⟩).toList) := hQ
          have ik := fun v => idxP (g := gb) (off := ob) (len := n) (cap := cap) Tryd.underlying23 (s := 10) (by kernel_rfl) .i64 k v hlt
          have hd := drop_in hIn.out.1 k
          rw [hdt] at hd
          have d1 : 1 ≤ d := hd.1.1
          have d2 : d ≤ 1048576 := hd.1.2
          have hki : (k : Int) < n := by omega
          have hk' : Hid (k < n) := hlt
          have hLk := fun v => ralike_any v ⟨c, sa⟩ ⟨d, sd⟩
          have hself : Hid (k = i → atB sa sd = true) := fun e => by
            subst e
            have h1 := hdrop.out
            rw [hdt] at h1
            have := (List.cons.inj h1).1
            injection this with _ h2
            rw [h2]
            exact atB_self _
          have J2 : Hid (NN = O ++ (if atB sa sd then nrm 1048576 (some (sa, u + d.toNat)) (l.drop (k + 1)) else emit 1048576 sa u ++ nrm 1048576 none (l.drop k))) := by
            have := J.out.2.2.2.2
            rw [hdt] at this ⊢
            exact this
          obtain ⟨b, hb⟩ : ∃ b, atB sa sd = b := ⟨_, rfl⟩
          dsimp only at hLk
          rw [hb] at hLk hself J2
          have cd := rangeC hQ.out 0 _ (spC_c ⟨d, sd⟩)
          rw [Nat.add_zero] at cd
          dsimp only at cd
          replace cd : Hid _ := cd
          replace ht : Hid _ := ht
          replace hdt : Hid _ := hdt
          clear hd hb
          cases b
          · have hik : Hid (i < k) := by
              show i < k
              rcases Nat.eq_or_lt_of_le J.out.1 with h | h
              · exact absurd (hself.out h.symm) Bool.false_ne_true
              · exact h
            have hkn : Hid (k ≤ n) := J.out.2.1
            have ub : Hid (u ≤ 4294967296) := by have h1 := J.out.2.2.2.1; have := hn4.out; show u ≤ 4294967296; omega
            have E : Hid (NN = O ++ (emit 1048576 sa u ++ nrm 1048576 none (l.drop k))) := by show NN = _; have := J2.out; simpa using this
            clear J2 hself
            go_wp2
            refine region_class_tail 9 (Ct w va (.slice none 0 0) O [] []) (by kernel_rfl) (by kernel_rfl) (K.out.below (below_drew (Below.refl _ _))) ?_
            simp only [List.take_succ_cons, List.take_zero, List.drop_succ_cons, List.drop_zero]
            with_reducible refine quiet_one (.slice (some ⟨gb, ob, none⟩) n cap) ?_ ?_ ?_
            · kernel_rfl
            · intro u hy
              go_simp
            with_reducible refine quiet_one (.int .i64 (i : Int)) ?_ ?_ ?_
            · kernel_rfl
            · intro u hy
              go_simp
            with_reducible refine quiet_one (.pointer (some ⟨gb, ob + i * 10, none⟩)) ?_ ?_ ?_
            · kernel_rfl
            · intro u hy
              go_simp
            with_reducible refine quiet_one (.agg (spC ⟨c, sa⟩)) ?_ ?_ ?_
            · kernel_rfl
            · intro u hy
              generalize hA : Act.put _ _ _ = X
              have e1 : X.eval (.tmp 27) = .pointer (some ⟨gb, ob + i * 10, none⟩) := by rw [← hA]; go_simp
              clear hA
              exact q_loadm (C := (Ct w va (.slice none 0 0) O [] [])) rtS gb (ob + i * 10) (spC ⟨c, sa⟩) (fun _ h => range_keep hR.out h.fm.low) rfl (.tmp 27) rfl e1 u hy
            with_reducible refine quiet_one (.slice (some ⟨gb, ob, none⟩) n cap) ?_ ?_ ?_
            · kernel_rfl
            · intro u hy
              go_simp
            with_reducible refine quiet_one (.int .i64 (k : Int)) ?_ ?_ ?_
            · kernel_rfl
            · intro u hy
              go_simp
            with_reducible refine quiet_one (.pointer (some ⟨gb, ob + k * 10, none⟩)) ?_ ?_ ?_
            · kernel_rfl
            · intro u hy
              go_simp
            with_reducible refine quiet_one (.agg (spC ⟨d, sd⟩)) ?_ ?_ ?_
            · kernel_rfl
            · intro u hy
              generalize hA : Act.put _ _ _ = X
              have e1 : X.eval (.tmp 31) = .pointer (some ⟨gb, ob + k * 10, none⟩) := by rw [← hA]; go_simp
              clear hA
              exact q_loadm (C := (Ct w va (.slice none 0 0) O [] [])) rtS gb (ob + k * 10) (spC ⟨d, sd⟩) (fun _ h => range_keep hQ.out h.fm.low) rfl (.tmp 31) rfl e1 u hy
            with_reducible refine quiet_one (.bool false) ?_ ?_ ?_
            · kernel_rfl
            · intro u hy
              have d := (hLk u).mono fun e w' (h : _ ∧ _) => And.intro h.1 (hy.below h.2)
              go_simp
              all_goals exact d
            refine wpQuiet_nil ?_
            intro z0 Kz
            replace Kz : Hid _ := Kz
            go_simp
            go_wp2
            clear J hlt d1 d2 cd
            go_loopw [5, 7] (fun o t wz => ∃ (q : Nat) (vx : Value) (P : List Sn) (x : World), x = wz ∧ vx = o ∧ t = .int .i64 (q : Int) ∧ Hid (q ≤ 4294967296 ∧ NN = P ++ (emit 1048576 sa q ++ nrm 1048576 none (l.drop k))) ∧ Hid (Ct w vx (.slice none 0 0) P [] [] x)) (fun _ t _ => (intOf t).toNat)
            case atStart => exact ⟨u, _, O, _, rfl, rfl, rfl, ⟨ub.out, E.out⟩, Kz⟩
            case round =>
              obtain ⟨q, vx, P, x, rfl, rfl, rfl, G, L⟩ := hrel
              clear E Kz
              by_cases hq : 0 < q
              · have qp : decide ((0 : Int) < (q : Int)) = true := by simp; omega
                have hq' : Hid (0 < q) := hq
                have hPl : Hid (P.length ≤ 4096) := by
                  have h1 := hNl.out
                  rw [G.out.2, List.length_append] at h1
                  have h2 := hn4.out
                  show P.length ≤ 4096
                  omega
                obtain ⟨h, hh⟩ : ∃ h, min q 1048576 = h := ⟨_, rfl⟩
                have hhi : Hid ((h : Int) ≤ (q : Int) ∧ 0 < h ∧ h ≤ 1048576) := by show _ ∧ _; omega
                have G2 : Hid (q - h ≤ 4294967296 ∧ NN = (P ++ [⟨(h : Int), sa⟩]) ++ (emit 1048576 sa (q - h) ++ nrm 1048576 none (l.drop k))) := by
                  obtain ⟨g1, g2⟩ := G.out
                  refine ⟨by omega, ?_⟩
                  rw [g2, emit_step 1048576 (by decide) sa q hq, hh, List.append_assoc]
                  rfl
                have qi : (q : Int) ≤ 4294967296 := by have := G.out.1; omega
                have hsub : ((q : Int) - (h : Int)) = ((q - h : Nat) : Int) := by omega
                obtain ⟨hI, hhI⟩ : ∃ hI : Int, (h : Int) = hI := ⟨_, rfl⟩
                have hmin : (if (1048576 : Int) < (q : Int) then 1048576 else (q : Int)) = hI := by rw [← hhI]; split <;> omega
                obtain ⟨qI, hqI⟩ : ∃ qI : Int, (q : Int) = qI := ⟨_, rfl⟩
                have hb : Hid (0 < hI ∧ hI ≤ qI) := by show _ ∧ _; omega
                have hs0 : 0 ≤ qI - hI := by omega
                have hs1 : qI ≤ 4294967296 := by omega
                have hs2 : 0 < hI := by omega
                have hs3 : hI ≤ 1048576 := by have := hhi.out; omega
                rw [hhI] at G2
                rw [hqI] at hmin qp ⊢
                have fin : Hid (qI - hI = ((q - h : Nat) : Int)) := by show _ = _; omega
                have hqI' : Hid ((q : Int) = qI ∧ (h : Int) = hI) := ⟨hqI, hhI⟩
                clear hq hh hsub hhI hqI qi
                rcases Int.lt_or_le 1048576 qI with hm | hm
                · have e7 : hI = 1048576 := by rw [if_pos hm] at hmin; exact hmin.symm
                  subst e7
                  clear hmin hb
                  go_wp2_with (first
                    | ((with_reducible refine at_loadm rtS gb (ob + i * 10) (spC ⟨c, sa⟩) ?_ ?_ (.tmp 49) ?_ ?_ ?_ ?_); exact range_keep hR.out L.out.fm.low; rfl; kernel_rfl; rfl; rfl)
                    | ((with_reducible refine gen_world (x.alloc (.cells (spC Z) 34)) (Ct w vx (.slice none 0 0) P [] [(x.heap.size, spC Z, 34)]) ?_ ?_); exact L.out.new _ _; intro y1 K1)
                    | ((with_reducible refine at_st rtS x.heap.size (spC Z) (spC ⟨c, sa⟩) ?_ ?_ ?_ ?_ (.tmp 10) (.tmp 50) ?_ ?_ ?_ ?_ ?_); exact K1.out.fm.bx 0 _ _ _ rfl; rfl; rfl; exact spC_one _; rfl; rfl; rfl; rfl; intro y2 hw2; have K2 : Hid (Ct w vx (.slice none 0 0) P [] [(x.heap.size, spC ⟨c, sa⟩, 34)] y2) := K1.out.put 0 _ _ _ _ rfl hw2.out; have d2 := (K2.out.fm.bx 0 _ _ _ rfl).c 0 _ (spC_c ⟨c, sa⟩); dsimp only at d2; have z2 := (K2.out.fm.bx 0 _ _ _ rfl).fz 0; refine stopAt ?_))
                  refine Stop.go ?_
                  go_wp2_with (first
                    | ((with_reducible refine gen_world (y2.setCell ⟨x.heap.size, 0, none⟩ (.int .i64 1048576)) (Ct w vx (.slice none 0 0) P [] [(x.heap.size, spC ⟨1048576, sa⟩, 34)]) ?_ ?_); exact K2.out.setCell 0 _ _ _ _ rfl 0 _ rfl; intro y3 K3; have d3 := (K3.out.fm.bx 0 _ _ _ rfl).c 0 _ (spC_c ⟨1048576, sa⟩); dsimp only at d3)
                    | ((with_reducible refine at_load rtS x.heap.size (spC ⟨1048576, sa⟩) ?_ ?_ (.tmp 10) ?_ ?_ ?_ ?_); exact K3.out.fm.bx 0 _ _ _ rfl; rfl; kernel_rfl; rfl; rfl)
                    | ((with_reducible refine at_bsS ⟨1048576, sa⟩ (.tmp 59) ?_ ?_ ?_ ?_); rfl; rfl; rfl)
                    | (at_builtin; refine at_app rfl (.tmp 58) (.tmp 60) rfl w.heap.size vx P rfl (K3.out.oa.alloc _) y3.heap.size ⟨1048576, sa⟩ rfl (one_bx _ _ _) ?_ ?_ ?_; (have := hPl.out; omega); (have := K3.out.fm.low.size; simp; omega); intro vx' x7 H7; have K7 : Hid (Ct w vx' (.slice none 0 0) (P ++ [⟨1048576, sa⟩]) [] [] x7) := (K3.out.appA H7.out).pre (bs := []); clear H7))
                  go_roundw
                  case rel => exact ⟨q - h, _, _, _, rfl, rfl, (by first | rw [← fin.out] | (have h1 := fin.out; simp at h1 ⊢; omega)), G2, K7⟩
                  case measure => have h1 := hqI'.out.1; have h2 := hqI'.out.2; have h3 := hhi.out; simp [intOf]; omega
                · have e7 : qI = hI := by rw [if_neg (by omega)] at hmin; exact hmin
                  subst e7
                  have hm' : ¬ (1048576 : Int) < qI := by omega
                  clear hmin hb hm
                  go_wp2_with (first
                    | ((with_reducible refine at_loadm rtS gb (ob + i * 10) (spC ⟨c, sa⟩) ?_ ?_ (.tmp 49) ?_ ?_ ?_ ?_); exact range_keep hR.out L.out.fm.low; rfl; kernel_rfl; rfl; rfl)
                    | ((with_reducible refine gen_world (x.alloc (.cells (spC Z) 34)) (Ct w vx (.slice none 0 0) P [] [(x.heap.size, spC Z, 34)]) ?_ ?_); exact L.out.new _ _; intro y1 K1)
                    | ((with_reducible refine at_st rtS x.heap.size (spC Z) (spC ⟨c, sa⟩) ?_ ?_ ?_ ?_ (.tmp 10) (.tmp 50) ?_ ?_ ?_ ?_ ?_); exact K1.out.fm.bx 0 _ _ _ rfl; rfl; rfl; exact spC_one _; rfl; rfl; rfl; rfl; intro y2 hw2; have K2 : Hid (Ct w vx (.slice none 0 0) P [] [(x.heap.size, spC ⟨c, sa⟩, 34)] y2) := K1.out.put 0 _ _ _ _ rfl hw2.out; have d2 := (K2.out.fm.bx 0 _ _ _ rfl).c 0 _ (spC_c ⟨c, sa⟩); dsimp only at d2; have z2 := (K2.out.fm.bx 0 _ _ _ rfl).fz 0; refine stopAt ?_))
                  refine Stop.go ?_
                  go_wp2_with (first
                    | ((with_reducible refine gen_world (y2.setCell ⟨x.heap.size, 0, none⟩ (.int .i64 qI)) (Ct w vx (.slice none 0 0) P [] [(x.heap.size, spC ⟨qI, sa⟩, 34)]) ?_ ?_); exact K2.out.setCell 0 _ _ _ _ rfl 0 _ rfl; intro y3 K3; have d3 := (K3.out.fm.bx 0 _ _ _ rfl).c 0 _ (spC_c ⟨qI, sa⟩); dsimp only at d3)
                    | ((with_reducible refine at_load rtS x.heap.size (spC ⟨qI, sa⟩) ?_ ?_ (.tmp 10) ?_ ?_ ?_ ?_); exact K3.out.fm.bx 0 _ _ _ rfl; rfl; kernel_rfl; rfl; rfl)
                    | ((with_reducible refine at_bsS ⟨qI, sa⟩ (.tmp 59) ?_ ?_ ?_ ?_); rfl; rfl; rfl)
                    | (at_builtin; refine at_app rfl (.tmp 58) (.tmp 60) rfl w.heap.size vx P rfl (K3.out.oa.alloc _) y3.heap.size ⟨qI, sa⟩ rfl (one_bx _ _ _) ?_ ?_ ?_; (have := hPl.out; omega); (have := K3.out.fm.low.size; simp; omega); intro vx' x7 H7; have K7 : Hid (Ct w vx' (.slice none 0 0) (P ++ [⟨qI, sa⟩]) [] [] x7) := (K3.out.appA H7.out).pre (bs := []); clear H7))
                  go_roundw
                  case rel => exact ⟨q - h, _, _, _, rfl, rfl, (by have h1 := fin.out; simp at h1 ⊢; omega), G2, K7⟩
                  case measure => have h1 := hqI'.out.1; have h2 := hqI'.out.2; have h3 := hhi.out; simp [intOf]; omega
              · have hq0 : q = 0 := by omega
                subst hq0
                have E2 : Hid (NN = P ++ nrm 1048576 none (l.drop k)) := by
                  show NN = _
                  have := G.out.2
                  rw [show emit 1048576 sa 0 = [] from rfl] at this
                  exact this
                rw [show ((0 : Nat) : Int) = 0 from rfl]
                clear hq
                go_wp2
                go_roundw
                case rel => exact ⟨k, _, P, _, rfl, rfl, rfl, ⟨hkn.out, E2.out⟩, L⟩
                case measure => have := hik.out; have := hkn.out; simp [intOf]; omega
          · have K2' : Hid (u + d.toNat ≤ 1048576 * (k + 1 - i)) := by have h1 := J.out.2.2.2.1; have h2 := J.out.1; show u + d.toNat ≤ 1048576 * (k + 1 - i); omega
            have J3 : Hid (NN = O ++ nrm 1048576 (some (sa, u + d.toNat)) (l.drop (k + 1))) := by show NN = _; have := J2.out; simpa using this
            have ui : (u : Int) ≤ 4294967296 := by have h1 := J.out.2.2.2.1; have := hn4.out; omega
            obtain ⟨D, hD⟩ : ∃ D, d.toNat = D := ⟨_, rfl⟩
            have dD : d = (D : Int) := by omega
            rw [hD] at K2' J3
            have fin : Hid ((u : Int) + d = ((u + D : Nat) : Int)) := by show _ = _; omega
            have D1 : Hid (0 < D) := by show 0 < D; omega
            clear J2 hself hD dD
            go_wp2
            refine region_class_tail 9 (Ct w va (.slice none 0 0) O [] []) (by kernel_rfl) (by kernel_rfl) (K.out.below (below_drew (Below.refl _ _))) ?_
            simp only [List.take_succ_cons, List.take_zero, List.drop_succ_cons, List.drop_zero]
            with_reducible refine quiet_one (.slice (some ⟨gb, ob, none⟩) n cap) ?_ ?_ ?_
            · kernel_rfl
            · intro u hy
              go_simp
            with_reducible refine quiet_one (.int .i64 (i : Int)) ?_ ?_ ?_
            · kernel_rfl
            · intro u hy
              go_simp
            with_reducible refine quiet_one (.pointer (some ⟨gb, ob + i * 10, none⟩)) ?_ ?_ ?_
            · kernel_rfl
            · intro u hy
              go_simp
            with_reducible refine quiet_one (.agg (spC ⟨c, sa⟩)) ?_ ?_ ?_
            · kernel_rfl
            · intro u hy
              generalize hA : Act.put _ _ _ = X
              have e1 : X.eval (.tmp 27) = .pointer (some ⟨gb, ob + i * 10, none⟩) := by rw [← hA]; go_simp
              clear hA
              exact q_loadm (C := (Ct w va (.slice none 0 0) O [] [])) rtS gb (ob + i * 10) (spC ⟨c, sa⟩) (fun _ h => range_keep hR.out h.fm.low) rfl (.tmp 27) rfl e1 u hy
            with_reducible refine quiet_one (.slice (some ⟨gb, ob, none⟩) n cap) ?_ ?_ ?_
            · kernel_rfl
            · intro u hy
              go_simp
            with_reducible refine quiet_one (.int .i64 (k : Int)) ?_ ?_ ?_
            · kernel_rfl
            · intro u hy
              go_simp
            with_reducible refine quiet_one (.pointer (some ⟨gb, ob + k * 10, none⟩)) ?_ ?_ ?_
            · kernel_rfl
            · intro u hy
              go_simp
            with_reducible refine quiet_one (.agg (spC ⟨d, sd⟩)) ?_ ?_ ?_
            · kernel_rfl
            · intro u hy
              generalize hA : Act.put _ _ _ = X
              have e1 : X.eval (.tmp 31) = .pointer (some ⟨gb, ob + k * 10, none⟩) := by rw [← hA]; go_simp
              clear hA
              exact q_loadm (C := (Ct w va (.slice none 0 0) O [] [])) rtS gb (ob + k * 10) (spC ⟨d, sd⟩) (fun _ h => range_keep hQ.out h.fm.low) rfl (.tmp 31) rfl e1 u hy
            with_reducible refine quiet_one (.bool true) ?_ ?_ ?_
            · kernel_rfl
            · intro u hy
              have d := (hLk u).mono fun e w' (h : _ ∧ _) => And.intro h.1 (hy.below h.2)
              go_simp
              all_goals exact d
            refine wpQuiet_nil ?_
            intro z0 Kz
            replace Kz : Hid _ := Kz
            go_simp
            have cd' := range_keep hQ.out Kz.out.fm.low 0 _ rfl
            rw [Nat.add_zero] at cd'
            dsimp only at cd'
            go_wp2
            go_roundw
            case rel => exact ⟨k + 1, u + D, _, rfl, (by have h1 := fin.out; simp at h1 ⊢; omega), by simp, ⟨by have := J.out.1; omega, by have := hk'.out; omega, fun _ => by have := D1.out; omega, K2'.out, J3.out⟩, Kz⟩
            case measure => have := hk'.out; simp [intOf]; omega
        · have hke : k = n := by have := J.out.2.1; omega
          have hik : Hid (i < k) := by show i < k; have := hi'.out; omega
          have hkn : Hid (k ≤ n) := J.out.2.1
          have ub : Hid (u ≤ 4294967296) := by have h1 := J.out.2.2.2.1; have := hn4.out; show u ≤ 4294967296; omega
          have E : Hid (NN = O ++ (emit 1048576 sa u ++ nrm 1048576 none (l.drop k))) := by
            show NN = _
            have := J.out.2.2.2.2
            rw [List.drop_eq_nil_of_le (by rw [hl'.out, hke]; exact Nat.le_refl _)] at this ⊢
            rw [this]
            simp [nrm]
          subst hke
          have qk : decide ((k : Int) < (k : Int)) = false := by simp
          clear J hlt
          go_wp2
          go_loopw [5, 7] (fun o t wz => ∃ (q : Nat) (vx : Value) (P : List Sn) (x : World), x = wz ∧ vx = o ∧ t = .int .i64 (q : Int) ∧ Hid (q ≤ 4294967296 ∧ NN = P ++ (emit 1048576 sa q ++ nrm 1048576 none (l.drop k))) ∧ Hid (Ct w vx (.slice none 0 0) P [] [] x)) (fun _ t _ => (intOf t).toNat)
          case atStart => exact ⟨u, _, O, _, rfl, rfl, rfl, ⟨ub.out, E.out⟩, K⟩
          case round =>
            obtain ⟨q, vx, P, x, rfl, rfl, rfl, G, L⟩ := hrel
            clear E K
            by_cases hq : 0 < q
            · have qp : decide ((0 : Int) < (q : Int)) = true := by simp; omega
              have hq' : Hid (0 < q) := hq
              have hPl : Hid (P.length ≤ 4096) := by
                have h1 := hNl.out
                rw [G.out.2, List.length_append] at h1
                have h2 := hn4.out
                show P.length ≤ 4096
                omega
              obtain ⟨h, hh⟩ : ∃ h, min q 1048576 = h := ⟨_, rfl⟩
              have hhi : Hid ((h : Int) ≤ (q : Int) ∧ 0 < h ∧ h ≤ 1048576) := by show _ ∧ _; omega
              have G2 : Hid (q - h ≤ 4294967296 ∧ NN = (P ++ [⟨(h : Int), sa⟩]) ++ (emit 1048576 sa (q - h) ++ nrm 1048576 none (l.drop k))) := by
                obtain ⟨g1, g2⟩ := G.out
                refine ⟨by omega, ?_⟩
                rw [g2, emit_step 1048576 (by decide) sa q hq, hh, List.append_assoc]
                rfl
              have qi : (q : Int) ≤ 4294967296 := by have := G.out.1; omega
              have hsub : ((q : Int) - (h : Int)) = ((q - h : Nat) : Int) := by omega
              obtain ⟨hI, hhI⟩ : ∃ hI : Int, (h : Int) = hI := ⟨_, rfl⟩
              have hmin : (if (1048576 : Int) < (q : Int) then 1048576 else (q : Int)) = hI := by rw [← hhI]; split <;> omega
              obtain ⟨qI, hqI⟩ : ∃ qI : Int, (q : Int) = qI := ⟨_, rfl⟩
              have hb : Hid (0 < hI ∧ hI ≤ qI) := by show _ ∧ _; omega
              have hs0 : 0 ≤ qI - hI := by omega
              have hs1 : qI ≤ 4294967296 := by omega
              have hs2 : 0 < hI := by omega
              have hs3 : hI ≤ 1048576 := by have := hhi.out; omega
              rw [hhI] at G2
              rw [hqI] at hmin qp ⊢
              have fin : Hid (qI - hI = ((q - h : Nat) : Int)) := by show _ = _; omega
              have hqI' : Hid ((q : Int) = qI ∧ (h : Int) = hI) := ⟨hqI, hhI⟩
              clear hq hh hsub hhI hqI qi
              rcases Int.lt_or_le 1048576 qI with hm | hm
              · have e7 : hI = 1048576 := by rw [if_pos hm] at hmin; exact hmin.symm
                subst e7
                clear hmin hb
                go_wp2_with (first
                  | ((with_reducible refine at_loadm rtS gb (ob + i * 10) (spC ⟨c, sa⟩) ?_ ?_ (.tmp 49) ?_ ?_ ?_ ?_); exact range_keep hR.out L.out.fm.low; rfl; kernel_rfl; rfl; rfl)
                  | ((with_reducible refine gen_world (x.alloc (.cells (spC Z) 34)) (Ct w vx (.slice none 0 0) P [] [(x.heap.size, spC Z, 34)]) ?_ ?_); exact L.out.new _ _; intro y1 K1)
                  | ((with_reducible refine at_st rtS x.heap.size (spC Z) (spC ⟨c, sa⟩) ?_ ?_ ?_ ?_ (.tmp 10) (.tmp 50) ?_ ?_ ?_ ?_ ?_); exact K1.out.fm.bx 0 _ _ _ rfl; rfl; rfl; exact spC_one _; rfl; rfl; rfl; rfl; intro y2 hw2; have K2 : Hid (Ct w vx (.slice none 0 0) P [] [(x.heap.size, spC ⟨c, sa⟩, 34)] y2) := K1.out.put 0 _ _ _ _ rfl hw2.out; have d2 := (K2.out.fm.bx 0 _ _ _ rfl).c 0 _ (spC_c ⟨c, sa⟩); dsimp only at d2; have z2 := (K2.out.fm.bx 0 _ _ _ rfl).fz 0; refine stopAt ?_))
                refine Stop.go ?_
                go_wp2_with (first
                  | ((with_reducible refine gen_world (y2.setCell ⟨x.heap.size, 0, none⟩ (.int .i64 1048576)) (Ct w vx (.slice none 0 0) P [] [(x.heap.size, spC ⟨1048576, sa⟩, 34)]) ?_ ?_); exact K2.out.setCell 0 _ _ _ _ rfl 0 _ rfl; intro y3 K3; have d3 := (K3.out.fm.bx 0 _ _ _ rfl).c 0 _ (spC_c ⟨1048576, sa⟩); dsimp only at d3)
                  | ((with_reducible refine at_load rtS x.heap.size (spC ⟨1048576, sa⟩) ?_ ?_ (.tmp 10) ?_ ?_ ?_ ?_); exact K3.out.fm.bx 0 _ _ _ rfl; rfl; kernel_rfl; rfl; rfl)
                  | ((with_reducible refine at_bsS ⟨1048576, sa⟩ (.tmp 59) ?_ ?_ ?_ ?_); rfl; rfl; rfl)
                  | (at_builtin; refine at_app rfl (.tmp 58) (.tmp 60) rfl w.heap.size vx P rfl (K3.out.oa.alloc _) y3.heap.size ⟨1048576, sa⟩ rfl (one_bx _ _ _) ?_ ?_ ?_; (have := hPl.out; omega); (have := K3.out.fm.low.size; simp; omega); intro vx' x7 H7; have K7 : Hid (Ct w vx' (.slice none 0 0) (P ++ [⟨1048576, sa⟩]) [] [] x7) := (K3.out.appA H7.out).pre (bs := []); clear H7))
                go_roundw
                case rel => exact ⟨q - h, _, _, _, rfl, rfl, (by first | rw [← fin.out] | (have h1 := fin.out; simp at h1 ⊢; omega)), G2, K7⟩
                case measure => have h1 := hqI'.out.1; have h2 := hqI'.out.2; have h3 := hhi.out; simp [intOf]; omega
              · have e7 : qI = hI := by rw [if_neg (by omega)] at hmin; exact hmin
                subst e7
                have hm' : ¬ (1048576 : Int) < qI := by omega
                clear hmin hb hm
                go_wp2_with (first
                  | ((with_reducible refine at_loadm rtS gb (ob + i * 10) (spC ⟨c, sa⟩) ?_ ?_ (.tmp 49) ?_ ?_ ?_ ?_); exact range_keep hR.out L.out.fm.low; rfl; kernel_rfl; rfl; rfl)
                  | ((with_reducible refine gen_world (x.alloc (.cells (spC Z) 34)) (Ct w vx (.slice none 0 0) P [] [(x.heap.size, spC Z, 34)]) ?_ ?_); exact L.out.new _ _; intro y1 K1)
                  | ((with_reducible refine at_st rtS x.heap.size (spC Z) (spC ⟨c, sa⟩) ?_ ?_ ?_ ?_ (.tmp 10) (.tmp 50) ?_ ?_ ?_ ?_ ?_); exact K1.out.fm.bx 0 _ _ _ rfl; rfl; rfl; exact spC_one _; rfl; rfl; rfl; rfl; intro y2 hw2; have K2 : Hid (Ct w vx (.slice none 0 0) P [] [(x.heap.size, spC ⟨c, sa⟩, 34)] y2) := K1.out.put 0 _ _ _ _ rfl hw2.out; have d2 := (K2.out.fm.bx 0 _ _ _ rfl).c 0 _ (spC_c ⟨c, sa⟩); dsimp only at d2; have z2 := (K2.out.fm.bx 0 _ _ _ rfl).fz 0; refine stopAt ?_))
                refine Stop.go ?_
                go_wp2_with (first
                  | ((with_reducible refine gen_world (y2.setCell ⟨x.heap.size, 0, none⟩ (.int .i64 qI)) (Ct w vx (.slice none 0 0) P [] [(x.heap.size, spC ⟨qI, sa⟩, 34)]) ?_ ?_); exact K2.out.setCell 0 _ _ _ _ rfl 0 _ rfl; intro y3 K3; have d3 := (K3.out.fm.bx 0 _ _ _ rfl).c 0 _ (spC_c ⟨qI, sa⟩); dsimp only at d3)
                  | ((with_reducible refine at_load rtS x.heap.size (spC ⟨qI, sa⟩) ?_ ?_ (.tmp 10) ?_ ?_ ?_ ?_); exact K3.out.fm.bx 0 _ _ _ rfl; rfl; kernel_rfl; rfl; rfl)
                  | ((with_reducible refine at_bsS ⟨qI, sa⟩ (.tmp 59) ?_ ?_ ?_ ?_); rfl; rfl; rfl)
                  | (at_builtin; refine at_app rfl (.tmp 58) (.tmp 60) rfl w.heap.size vx P rfl (K3.out.oa.alloc _) y3.heap.size ⟨qI, sa⟩ rfl (one_bx _ _ _) ?_ ?_ ?_; (have := hPl.out; omega); (have := K3.out.fm.low.size; simp; omega); intro vx' x7 H7; have K7 : Hid (Ct w vx' (.slice none 0 0) (P ++ [⟨qI, sa⟩]) [] [] x7) := (K3.out.appA H7.out).pre (bs := []); clear H7))
                go_roundw
                case rel => exact ⟨q - h, _, _, _, rfl, rfl, (by have h1 := fin.out; simp at h1 ⊢; omega), G2, K7⟩
                case measure => have h1 := hqI'.out.1; have h2 := hqI'.out.2; have h3 := hhi.out; simp [intOf]; omega
            · have hq0 : q = 0 := by omega
              subst hq0
              have E2 : Hid (NN = P ++ nrm 1048576 none (l.drop k)) := by
                show NN = _
                have := G.out.2
                rw [show emit 1048576 sa 0 = [] from rfl] at this
                exact this
              rw [show ((0 : Nat) : Int) = 0 from rfl]
              clear hq
              go_wp2
              go_roundw
              case rel => exact ⟨k, _, P, _, rfl, rfl, rfl, ⟨hkn.out, E2.out⟩, L⟩
              case measure => have := hik.out; have := hkn.out; simp [intOf]; omega
    · have hje : i = n := by have := J0.out.1; omega
      subst hje
      have fin : Hid (NN = O) := by
        show NN = O
        have := J0.out.2
        rw [List.drop_eq_nil_of_le (by rw [hl'.out]; exact Nat.le_refl _)] at this
        rw [this]
        simp [nrm]
      clear hlt0
      go_wp2
      go_ret2
      exact ⟨_, rfl, by rw [fin.out]; exact K0⟩
end Go.Proofs.YthpahpfnpapoiaaDoor
