/- CPUExact: from any processor on, whatever comes to it, as the document says. -/
import Derived.Test.YtbeeefekndcgnaaGreatDoorCpU
namespace Go.Proofs.YtbeeefekndcgnaaGreatDoor
open Go Go.RowKit
set_option linter.unusedVariables false
set_option maxHeartbeats 4000000
set_option maxRecDepth 20000

theorem wp_storeC {o : Oper} {a : Act} {w : World} {K : Act → World → Prop} {Q : Exit → Act → World → Prop} (b : Nat) (d0 d : Cp) (h : BoxC w b d0) (x y : Operand) (ho : o.op = .store 26 x y) (hx : a.eval x = .pointer (some ⟨b, 0, none⟩)) (hy : a.eval y = .agg (cpC d))
    (k : ∀ w', Hid (BoxC w' b d ∧ (∀ B, B ≤ b → Below B w w') ∧ ∀ q, q ≠ b → w'.heap[q]? = w.heap[q]?) → K (a.put o.dst undef) w') : o.wp Tryz.prog a w K Q :=
  wp_store_row 26 x y ho b (cpC d) hx hy 26 (cpC d0) h infoC rfl (cpC_one d) (k _ ⟨setRow_heap w b _ _ 26 _ h, fun B hB => ⟨rfl, rfl, rfl, by simp, fun q hq => setRow_other w b q _ (by omega)⟩, fun q hq => setRow_other w b q _ hq⟩)
theorem exact_long (w : World) (c : Cp) (a : Option Addr) (len cap : Nat) (hl : len ≤ maxLen) (h : (2147483647 : Int) < len) : Calls Tryz.prog 3 #[.agg (cpC c), .slice a len cap] w fun e w' => e = .returned (.bool true) ∧ Below w.heap.size w w' := by
  have b1 : (len : Int) ≤ 9223372036854775807 := by unfold maxLen at hl; omega
  have hF : Hid (Fm w [(w.heap.size, cpC c, 26)] (w.alloc (.cells (cpC c) 26))) := Fm.one1 w c
  clear hl
  go_enter Tryz.func3, Tryz.ntmps3
  go_wp2
  go_ret
  exact ⟨rfl, hF.out.low⟩
theorem exact_short (w : World) (c : Cp) (hc : c.wf) (a : Option Addr) (len cap : Nat) (h : (len : Int) ≤ 2147483647) (hPin : PinsIn w a len) (tb : Tabs w) : Calls Tryz.prog 3 #[.agg (cpC c), .slice a len cap] w fun e w' => e = .returned (.bool true) ∧ Below w.heap.size w w' := by
  have hc' : Hid c.wf := hc
  have hP' : Hid (PinsIn w a len) := hPin
  have tb' : Hid (Tabs w) := tb
  have hF : Hid (Fm w [(w.heap.size, cpC c, 26)] (w.alloc (.cells (cpC c) 26))) := Fm.one1 w c
  have zz := zeroVC
  obtain ⟨S, hS⟩ : ∃ S, startM = S := ⟨_, rfl⟩
  have hs1 := fun v => ystart v
  have hs2 := fun v => rstart_any v
  rw [hS] at hs1 hs2
  clear hc hPin tb hS
  go_enter Tryz.func3, Tryz.ntmps3
  go_wp2_with (first
    | (refine gen_world (w.alloc (.cells (cpC c) 26)) (Fm w [(w.heap.size, cpC c, 26)]) hF.out ?_; intro y0 K0)
    | (go_at_call 5; refine (hs1 _).mono ?_; rintro e v1 ⟨rfl, hb1⟩; have K1 : Hid _ := K0.out.below hb1)
    | (go_at_call 6; refine (hs2 _).mono ?_; rintro e v2 ⟨rfl, hb2⟩; have K2 : Hid _ := K1.out.below hb2)
    | (refine at_neC S S rfl _ _ _ rfl rfl rfl rfl ?_)
    | (refine gen_world (v2.alloc (.cells (cpC zeroC) 26)) (Fm w [(w.heap.size, cpC c, 26), (v2.heap.size, cpC zeroC, 26)]) (K2.out.new _ _) ?_; intro y3 K3)
    | (refine at_storeC v2.heap.size zeroC c (K3.out.get 1 _ _ _ rfl) _ _ rfl rfl rfl rfl ?_; intro y4 hw4; have K4 : Hid (Fm w [(w.heap.size, cpC c, 26), (v2.heap.size, cpC c, 26)] y4) := K3.out.put 1 _ _ _ _ rfl hw4.out)
    | (refine at_loadC w.heap.size c (K2.out.get 0 _ _ _ rfl) _ rfl rfl rfl ?_))
  go_loopw [6] (fun i wz => ∃ (k : Nat) (wx : World) (X : Cp), wx = wz ∧ k ≤ len ∧ i = .int .i64 (k : Int) ∧ Hid X.wf ∧ Hid (Fm w [(w.heap.size, cpC c, 26), (v2.heap.size, cpC X, 26)] wx)) (fun i _ => (len - intOf i).toNat)
  case atStart => exact ⟨0, _, c, rfl, by omega, rfl, hc', K4⟩
  case round =>
    clear K0 K1 K2 K3 K4 hw4 hb1 hb2 hF hs1 hs2
    obtain ⟨k, wx, X, rfl, hk, rfl, hX, K⟩ := hrel
    have hE1 := fun v t => ycheck v X hX.out t
    have hE2 := fun v => rcheck_any v X hX.out
    obtain ⟨E, hE⟩ : ∃ E, checkM X = E := ⟨_, rfl⟩
    rw [hE] at hE1 hE2
    clear hE
    by_cases hlt : k < len
    · obtain ⟨g, off, p, rfl, hp, hr⟩ := hP'.out k hlt
      have q1 : (k : Int) < len := by omega
      obtain ⟨q, hq⟩ : ∃ q, off + k * 9 = q := ⟨_, rfl⟩
      have ij : ∀ v, (Instr.indexAt 27 (.slice (some ⟨g, off, none⟩) len cap) (.int .i64 (k : Int))).run Tryz.prog v = .ok (.pointer (some ⟨g, q, none⟩)) v := fun v => by
        have := idxP (g := g) (off := off) (len := len) (cap := cap) Tryz.underlying27 (s := 9) infoP .i64 k v hlt
        rw [hq] at this
        exact this
      rw [hq] at hr
      have hr' : Hid (∀ l y, Fm w l y → y.rangeAt g q (pnC p).toList) := fun l y hy => range_keep hr hy.low
      have hm' : Hid (∀ l y, Fm w l y → y.cell? ⟨g, q, none⟩ = some (.int .u8 (p.Mode : Int))) := fun l y hy => range_keep hr hy.low 0 _ rfl
      have hp' : Hid p.wf := hp
      have hk' : Hid (k < len) := hlt
      clear hr hq hlt hk hp
      go_wp2
      refine region_class_tail 4 (Fm w [(w.heap.size, cpC c, 26), (v2.heap.size, cpC X, 26)]) (by kernel_rfl) (by kernel_rfl) (K.out.below (below_drew (Below.refl _ _))) ?_
      simp only [List.take_succ_cons, List.take_zero, List.drop_succ_cons, List.drop_zero]
      refine quiet_one (.agg (cpC X)) rfl (quiet_loadC v2.heap.size X (fun _ h => h.get 1 _ _ _ rfl) (.tmp 5) rfl (by go_simp)) ?_
      refine quiet_one (.int .i64 E) rfl (fun u hy => by
        have d := (hE1 u (tb'.out.below hy.low)).mono fun e w' (h : _ ∧ _) => And.intro h.1 (hy.below h.2)
        go_simp
        all_goals exact d) ?_
      refine quiet_one (.agg (cpC X)) rfl (fun u hy => by
        generalize ha : Act.put _ _ _ = a
        have e1 : a.eval (.tmp 5) = .pointer (some ⟨v2.heap.size, 0, none⟩) := by rw [← ha]; go_simp
        clear ha
        exact quiet_loadC (C := Fm w [(w.heap.size, cpC c, 26), (v2.heap.size, cpC X, 26)]) v2.heap.size X (fun _ h => h.get 1 _ _ _ rfl) (.tmp 5) rfl e1 u hy) ?_
      refine quiet_one (.int .i64 E) rfl (fun u hy => by
        have d := (hE2 u).mono fun e w' (h : _ ∧ _) => And.intro h.1 (hy.below h.2)
        go_simp
        all_goals exact d) ?_
      refine wpQuiet_nil ?_
      intro z9 K9
      replace K9 : Hid (Fm w [(w.heap.size, cpC c, 26), (v2.heap.size, cpC X, 26)] z9) := K9
      go_simp
      go_wp2
      go_loopw [7] (fun i wz => ∃ (j : Nat) (wx : World), wx = wz ∧ j ≤ 5 ∧ i = .int .u8 (j : Int) ∧ Hid (Fm w [(w.heap.size, cpC c, 26), (v2.heap.size, cpC X, 26)] wx)) (fun i _ => (5 - intOf i).toNat)
      case atStart => exact ⟨0, _, rfl, by decide, rfl, K9⟩
      case round =>
        clear K K9
        obtain ⟨j, wj, rfl, hj, rfl, K⟩ := hrel
        by_cases h4 : j ≤ 4
        · have q4 : (j : Int) ≤ 4 := by omega
          have hD1 := fun v t => ydrive v X hX.out t j (by omega)
          have hD2 := fun v t => rdrive_any v X hX.out t j (by omega)
          obtain ⟨D, hD⟩ : ∃ D, driveM X j = D := ⟨_, rfl⟩
          rw [hD] at hD1 hD2
          have h4' : Hid (j ≤ 4) := h4
          clear hD h4 hj
          go_wp2
          refine region_class_tail 6 (Fm w [(w.heap.size, cpC c, 26), (v2.heap.size, cpC X, 26)]) (by kernel_rfl) (by kernel_rfl) (K.out.below (below_drew (Below.refl _ _))) ?_
          simp only [List.take_succ_cons, List.take_zero, List.drop_succ_cons, List.drop_zero]
          refine quiet_one (.agg (cpC X)) rfl (quiet_loadC v2.heap.size X (fun _ h => h.get 1 _ _ _ rfl) (.tmp 5) rfl (by go_simp)) ?_
          refine quiet_one (.int .u8 (j : Int)) rfl (fun u hy => by go_simp) ?_
          refine quiet_one (.agg (dvC D)) rfl (fun u hy => by
            have d := (hD1 u (tb'.out.below hy.low)).mono fun e w' (h : _ ∧ _) => And.intro h.1 (hy.below h.2)
            go_simp
            all_goals exact d) ?_
          refine quiet_one (.agg (cpC X)) rfl (fun u hy => by
            generalize ha : Act.put _ _ _ = a
            have e1 : a.eval (.tmp 5) = .pointer (some ⟨v2.heap.size, 0, none⟩) := by rw [← ha]; go_simp
            clear ha
            exact quiet_loadC (C := Fm w [(w.heap.size, cpC c, 26), (v2.heap.size, cpC X, 26)]) v2.heap.size X (fun _ h => h.get 1 _ _ _ rfl) (.tmp 5) rfl e1 u hy) ?_
          refine quiet_one (.int .u8 (j : Int)) rfl (fun u hy => by go_simp) ?_
          refine quiet_one (.agg (dvC D)) rfl (fun u hy => by
            have d := (hD2 u (tb'.out.below hy.low)).mono fun e w' (h : _ ∧ _) => And.intro h.1 (hy.below h.2)
            go_simp
            all_goals exact d) ?_
          refine wpQuiet_nil ?_
          intro z14 K14
          replace K14 : Hid (Fm w [(w.heap.size, cpC c, 26), (v2.heap.size, cpC X, 26)] z14) := K14
          refine at_neD D D rfl (.tmp 33) (.tmp 36) 33 ?_ ?_ ?_ ?_ ?_
          · kernel_rfl
          · rfl
          · go_simp
          · go_simp
          go_simp
          go_wp2
          go_roundw
          case rel => exact ⟨j + 1, _, rfl, by have := h4'.out; omega, by simp, K14⟩
          case measure => have := h4'.out; simp [intOf]; omega
        · have hje : j = 5 := by omega
          subst hje
          have hS1 := fun v t => ystep v X hX.out p hp'.out t
          have hS2 := fun v => rstep_any v X hX.out p hp'.out
          have hD1 := fun v t => ydrive v X hX.out t p.Mode hp'.out.Mode
          have hD2 := fun v t => rdrive_any v X hX.out t p.Mode hp'.out.Mode
          have hNw : Hid (stepM X p).wf := stepM_wf hX.out hp'.out
          obtain ⟨N, hN⟩ : ∃ N, stepM X p = N := ⟨_, rfl⟩
          obtain ⟨D, hD⟩ : ∃ D, driveM X p.Mode = D := ⟨_, rfl⟩
          obtain ⟨m, hm⟩ : ∃ m : Int, (p.Mode : Int) = m := ⟨_, rfl⟩
          rw [hN] at hS1 hS2 hNw
          rw [hD, hm] at hD1 hD2
          rw [hm] at hm'
          clear hN hD hm hj h4 hE1 hE2
          go_wp2
          refine wp_region_held_drew (S := Fm w [(w.heap.size, cpC c, 26), (v2.heap.size, cpC X, 26)]) (by kernel_rfl) (K.out.below (below_drew (Below.refl _ _))) (fun hH => ?_)
          generalize wj.drew = z0 at hH ⊢
          clear K
          refine wpAnyH_take (i := 0) (v := .agg (cpC X)) rfl (by kernel_rfl) (by kernel_rfl) (by kernel_rfl) (fun _ _ _ h => h) (yieldsC v2.heap.size X (fun _ h => h.get 1 _ _ _ rfl) _ rfl rfl rfl) hH ?_
          try simp only [Act.put, List.setIfInBounds_toArray]
          refine wpAnyH_take (i := 1) (v := .slice (some ⟨g, off, none⟩) len cap) rfl (by kernel_rfl) (by kernel_rfl) (by kernel_rfl) (fun _ _ _ h => h) (.inl ⟨by rfl, fun u hu => by go_simp⟩) hH ?_
          try simp only [Act.put]
          refine wpAnyH_take (i := 2) (v := .int .i64 (k : Int)) rfl (by kernel_rfl) (by kernel_rfl) (by kernel_rfl) (fun _ _ _ h => h) (.inl ⟨by rfl, fun u hu => by go_simp⟩) hH ?_
          try simp only [Act.put]
          refine wpAnyH_take (i := 3) (v := .pointer (some ⟨g, q, none⟩)) rfl (by kernel_rfl) (by kernel_rfl) (by kernel_rfl) (fun _ _ _ h => h) (.inl ⟨by rfl, fun u hu => by go_simp⟩) hH ?_
          try simp only [Act.put]
          refine wpAnyH_take (i := 4) (v := .agg (pnC p)) rfl (by kernel_rfl) (by kernel_rfl) (by kernel_rfl) (fun _ _ _ h => h) (yieldsPm g q p (fun _ h => hr'.out _ _ h) _ rfl rfl rfl) hH ?_
          try simp only [Act.put]
          refine wpAnyH_ready (rs := [5, 6]) (by kernel_rfl) (by simp) (AllReadyH.cons rfl (fun K hK => ?_) (AllReadyH.cons rfl (fun K hK => ?_) AllReadyH.nil))
          · rw [if_pos (by rfl)]
            go_wp2_with (go_at_call 11; refine (hS1 _ (tb'.out.below hH.low)).mono ?_; rintro e v5 ⟨rfl, hb5⟩)
            refine hK.out _ _ (hH.below hb5) (fun hH => ?_)
            clear hK K hb5
            refine wpAnyH_ready (rs := [6]) (by kernel_rfl) (by simp) (AllReadyH.cons rfl (fun K hK => ?_) AllReadyH.nil)
            rw [if_pos (by rfl)]
            go_wp2
            have K4 := hH.new (cpC zeroC) 26
            refine hK.out _ _ (hH.below ((Below.refl _ _).alloc (Nat.le_refl _) _)) (fun hH => ?_)
            clear hK K
            generalize v5.heap.size = bn at K4 ⊢
            generalize v5.alloc _ = y4 at K4 hH ⊢
            refine wpAnyH_ready (rs := [7]) (by kernel_rfl) (by simp) (AllReadyH.cons rfl (fun K hK => ?_) AllReadyH.nil)
            rw [if_pos (by rfl)]
            refine wp_storeC bn zeroC N (K4.get 2 _ _ _ rfl) _ _ rfl rfl rfl ?_
            intro y5 hw5
            have K5 : Hid (Fm w [(w.heap.size, cpC c, 26), (v2.heap.size, cpC X, 26), (bn, cpC N, 26)] y5) := K4.put 2 _ _ _ _ rfl hw5.out
            refine hK.out _ _ (Fm.pre (l' := [(bn, cpC N, 26)]) K5.out) (fun _ => ?_)
            clear hK K hH K4 hw5
            refine wpAnyH_done (by kernel_rfl) ?_ _
            go_wp2
            refine region_class_tail 24 (Fm w [(w.heap.size, cpC c, 26), (v2.heap.size, cpC X, 26), (bn, cpC N, 26)]) (by kernel_rfl) (by kernel_rfl) (K5.out.below (below_drew (Below.refl _ _))) ?_
            simp only [List.take_succ_cons, List.take_zero, List.drop_succ_cons, List.drop_zero]
            refine quiet_one (.agg (cpC X)) rfl (quiet_loadC v2.heap.size X (fun _ h => h.get 1 _ _ _ rfl) (.tmp 5) rfl (by go_simp)) ?_
            refine quiet_one (.slice (some ⟨g, off, none⟩) len cap) rfl (fun u hy => by go_simp) ?_
            refine quiet_one (.int .i64 (k : Int)) rfl (fun u hy => by go_simp) ?_
            refine quiet_one (.pointer (some ⟨g, q, none⟩)) rfl (fun u hy => by go_simp) ?_
            refine quiet_one (.pointer (some ⟨g, q, none⟩)) rfl (fun u hy => by go_simp) ?_
            refine quiet_one (.int .u8 m) rfl (fun u hy => by have d := hm'.out _ _ hy; go_simp) ?_
            refine quiet_one (.agg (dvC D)) rfl (fun u hy => by
              have d := (hD1 u (tb'.out.below hy.low)).mono fun e w' (h : _ ∧ _) => And.intro h.1 (hy.below h.2)
              go_simp
              all_goals exact d) ?_
            refine quiet_one (.agg (cpC X)) rfl (fun u hy => by
              generalize ha : Act.put _ _ _ = a
              have e1 : a.eval (.tmp 5) = .pointer (some ⟨v2.heap.size, 0, none⟩) := by rw [← ha]; go_simp
              clear ha
              exact quiet_loadC (C := Fm w [(w.heap.size, cpC c, 26), (v2.heap.size, cpC X, 26), (bn, cpC N, 26)]) v2.heap.size X (fun _ h => h.get 1 _ _ _ rfl) (.tmp 5) rfl e1 u hy) ?_
            refine quiet_one (.slice (some ⟨g, off, none⟩) len cap) rfl (fun u hy => by go_simp) ?_
            refine quiet_one (.int .i64 (k : Int)) rfl (fun u hy => by go_simp) ?_
            refine quiet_one (.pointer (some ⟨g, q, none⟩)) rfl (fun u hy => by go_simp) ?_
            refine quiet_one (.pointer (some ⟨g, q, none⟩)) rfl (fun u hy => by go_simp) ?_
            refine quiet_one (.int .u8 m) rfl (fun u hy => by have d := hm'.out _ _ hy; go_simp) ?_
            refine quiet_one (.agg (dvC D)) rfl (fun u hy => by
              have d := (hD2 u (tb'.out.below hy.low)).mono fun e w' (h : _ ∧ _) => And.intro h.1 (hy.below h.2)
              go_simp
              all_goals exact d) ?_
            with_reducible refine quiet_one (.bool false) ?_ ?_ ?_
            · kernel_rfl
            · intro u hy
              generalize ha : Act.put _ _ _ = a
              have e50 : a.eval (.tmp 50) = .agg (dvC D) := by rw [← ha]; go_simp
              have e57 : a.eval (.tmp 57) = .agg (dvC D) := by rw [← ha]; go_simp
              clear ha
              exact quiet_neD (C := Fm w [(w.heap.size, cpC c, 26), (v2.heap.size, cpC X, 26), (bn, cpC N, 26)]) D D rfl (.tmp 50) (.tmp 57) _ rfl e50 e57 u hy
            with_reducible refine quiet_one (.bool false) ?_ ?_ ?_
            · kernel_rfl
            · intro u hy
              go_simp
            with_reducible refine quiet_one (.agg (cpC N)) ?_ ?_ ?_
            · kernel_rfl
            · intro u hy
              generalize ha : Act.put _ _ _ = a
              have e8 : a.eval (.tmp 8) = .pointer (some ⟨bn, 0, none⟩) := by rw [← ha]; go_simp
              clear ha
              exact quiet_loadC (C := Fm w [(w.heap.size, cpC c, 26), (v2.heap.size, cpC X, 26), (bn, cpC N, 26)]) bn N (fun _ h => h.get 2 _ _ _ rfl) (.tmp 8) rfl e8 u hy
            with_reducible refine quiet_one (.agg (cpC X)) ?_ ?_ ?_
            · kernel_rfl
            · intro u hy
              generalize ha : Act.put _ _ _ = a
              have e5 : a.eval (.tmp 5) = .pointer (some ⟨v2.heap.size, 0, none⟩) := by rw [← ha]; go_simp
              clear ha
              exact quiet_loadC (C := Fm w [(w.heap.size, cpC c, 26), (v2.heap.size, cpC X, 26), (bn, cpC N, 26)]) v2.heap.size X (fun _ h => h.get 1 _ _ _ rfl) (.tmp 5) rfl e5 u hy
            with_reducible refine quiet_one (.slice (some ⟨g, off, none⟩) len cap) ?_ ?_ ?_
            · kernel_rfl
            · intro u hy
              go_simp
            with_reducible refine quiet_one (.int .i64 (k : Int)) ?_ ?_ ?_
            · kernel_rfl
            · intro u hy
              go_simp
            with_reducible refine quiet_one (.pointer (some ⟨g, q, none⟩)) ?_ ?_ ?_
            · kernel_rfl
            · intro u hy
              go_simp
            with_reducible refine quiet_one (.agg (pnC p)) ?_ ?_ ?_
            · kernel_rfl
            · intro u hy
              generalize ha : Act.put _ _ _ = a
              have e64 : a.eval (.tmp 64) = .pointer (some ⟨g, q, none⟩) := by rw [← ha]; go_simp
              clear ha
              exact quiet_loadPm (C := Fm w [(w.heap.size, cpC c, 26), (v2.heap.size, cpC X, 26), (bn, cpC N, 26)]) g q p (fun _ h => hr'.out _ _ h) (.tmp 64) rfl e64 u hy
            with_reducible refine quiet_one (.agg (cpC N)) ?_ ?_ ?_
            · kernel_rfl
            · intro u hy
              have d := (hS2 u).mono fun e w' (h : _ ∧ _) => And.intro h.1 (hy.below h.2)
              go_simp
              all_goals exact d
            with_reducible refine quiet_one (.bool false) ?_ ?_ ?_
            · kernel_rfl
            · intro u hy
              generalize ha : Act.put _ _ _ = a
              have e60 : a.eval (.tmp 60) = .agg (cpC N) := by rw [← ha]; go_simp
              have e66 : a.eval (.tmp 66) = .agg (cpC N) := by rw [← ha]; go_simp
              clear ha
              exact quiet_neC (C := Fm w [(w.heap.size, cpC c, 26), (v2.heap.size, cpC X, 26), (bn, cpC N, 26)]) N N rfl (.tmp 60) (.tmp 66) _ rfl e60 e66 u hy
            refine wpQuiet_nil ?_
            intro z17 K17
            replace K17 : Hid (Fm w [(w.heap.size, cpC c, 26), (v2.heap.size, cpC X, 26), (bn, cpC N, 26)] z17) := K17
            go_simp
            go_wp2_with (first
              | (refine at_loadC bn N (K17.out.get 2 _ _ _ rfl) _ rfl rfl rfl ?_)
              | (refine at_storeC v2.heap.size X N (K17.out.get 1 _ _ _ rfl) _ _ rfl rfl rfl rfl ?_; intro y19 hw19; have K19 : Hid (Fm w [(w.heap.size, cpC c, 26), (v2.heap.size, cpC N, 26), (bn, cpC N, 26)] y19) := K17.out.put 1 _ _ _ _ rfl hw19.out))
            go_roundw
            case rel => exact ⟨k + 1, _, N, rfl, by have := hk'.out; omega, by simp, hNw, Fm.pre (l' := [(bn, cpC N, 26)]) K19.out⟩
            case measure => have := hk'.out; simp [intOf]; omega
          · rw [if_pos (by rfl)]
            go_wp2
            have K4 := hH.new (cpC zeroC) 26
            refine hK.out _ _ (hH.below ((Below.refl _ _).alloc (Nat.le_refl _) _)) (fun hH => ?_)
            clear hK K
            generalize z0.heap.size = bn at K4 ⊢
            generalize z0.alloc _ = y4 at K4 hH ⊢
            refine wpAnyH_ready (rs := [5]) (by kernel_rfl) (by simp) (AllReadyH.cons rfl (fun K hK => ?_) AllReadyH.nil)
            rw [if_pos (by rfl)]
            go_wp2_with (go_at_call 11; refine (hS1 _ (tb'.out.below hH.low)).mono ?_; rintro e v5 ⟨rfl, hb5⟩)
            replace K4 := K4.below hb5
            refine hK.out _ _ (hH.below hb5) (fun hH => ?_)
            clear hK K hb5
            refine wpAnyH_ready (rs := [7]) (by kernel_rfl) (by simp) (AllReadyH.cons rfl (fun K hK => ?_) AllReadyH.nil)
            rw [if_pos (by rfl)]
            refine wp_storeC bn zeroC N (K4.get 2 _ _ _ rfl) _ _ rfl rfl rfl ?_
            intro y5 hw5
            have K5 : Hid (Fm w [(w.heap.size, cpC c, 26), (v2.heap.size, cpC X, 26), (bn, cpC N, 26)] y5) := K4.put 2 _ _ _ _ rfl hw5.out
            refine hK.out _ _ (Fm.pre (l' := [(bn, cpC N, 26)]) K5.out) (fun _ => ?_)
            clear hK K hH K4 hw5
            refine wpAnyH_done (by kernel_rfl) ?_ _
            go_wp2
            refine region_class_tail 24 (Fm w [(w.heap.size, cpC c, 26), (v2.heap.size, cpC X, 26), (bn, cpC N, 26)]) (by kernel_rfl) (by kernel_rfl) (K5.out.below (below_drew (Below.refl _ _))) ?_
            simp only [List.take_succ_cons, List.take_zero, List.drop_succ_cons, List.drop_zero]
            refine quiet_one (.agg (cpC X)) rfl (quiet_loadC v2.heap.size X (fun _ h => h.get 1 _ _ _ rfl) (.tmp 5) rfl (by go_simp)) ?_
            refine quiet_one (.slice (some ⟨g, off, none⟩) len cap) rfl (fun u hy => by go_simp) ?_
            refine quiet_one (.int .i64 (k : Int)) rfl (fun u hy => by go_simp) ?_
            refine quiet_one (.pointer (some ⟨g, q, none⟩)) rfl (fun u hy => by go_simp) ?_
            refine quiet_one (.pointer (some ⟨g, q, none⟩)) rfl (fun u hy => by go_simp) ?_
            refine quiet_one (.int .u8 m) rfl (fun u hy => by have d := hm'.out _ _ hy; go_simp) ?_
            refine quiet_one (.agg (dvC D)) rfl (fun u hy => by
              have d := (hD1 u (tb'.out.below hy.low)).mono fun e w' (h : _ ∧ _) => And.intro h.1 (hy.below h.2)
              go_simp
              all_goals exact d) ?_
            refine quiet_one (.agg (cpC X)) rfl (fun u hy => by
              generalize ha : Act.put _ _ _ = a
              have e1 : a.eval (.tmp 5) = .pointer (some ⟨v2.heap.size, 0, none⟩) := by rw [← ha]; go_simp
              clear ha
              exact quiet_loadC (C := Fm w [(w.heap.size, cpC c, 26), (v2.heap.size, cpC X, 26), (bn, cpC N, 26)]) v2.heap.size X (fun _ h => h.get 1 _ _ _ rfl) (.tmp 5) rfl e1 u hy) ?_
            refine quiet_one (.slice (some ⟨g, off, none⟩) len cap) rfl (fun u hy => by go_simp) ?_
            refine quiet_one (.int .i64 (k : Int)) rfl (fun u hy => by go_simp) ?_
            refine quiet_one (.pointer (some ⟨g, q, none⟩)) rfl (fun u hy => by go_simp) ?_
            refine quiet_one (.pointer (some ⟨g, q, none⟩)) rfl (fun u hy => by go_simp) ?_
            refine quiet_one (.int .u8 m) rfl (fun u hy => by have d := hm'.out _ _ hy; go_simp) ?_
            refine quiet_one (.agg (dvC D)) rfl (fun u hy => by
              have d := (hD2 u (tb'.out.below hy.low)).mono fun e w' (h : _ ∧ _) => And.intro h.1 (hy.below h.2)
              go_simp
              all_goals exact d) ?_
            with_reducible refine quiet_one (.bool false) ?_ ?_ ?_
            · kernel_rfl
            · intro u hy
              generalize ha : Act.put _ _ _ = a
              have e50 : a.eval (.tmp 50) = .agg (dvC D) := by rw [← ha]; go_simp
              have e57 : a.eval (.tmp 57) = .agg (dvC D) := by rw [← ha]; go_simp
              clear ha
              exact quiet_neD (C := Fm w [(w.heap.size, cpC c, 26), (v2.heap.size, cpC X, 26), (bn, cpC N, 26)]) D D rfl (.tmp 50) (.tmp 57) _ rfl e50 e57 u hy
            with_reducible refine quiet_one (.bool false) ?_ ?_ ?_
            · kernel_rfl
            · intro u hy
              go_simp
            with_reducible refine quiet_one (.agg (cpC N)) ?_ ?_ ?_
            · kernel_rfl
            · intro u hy
              generalize ha : Act.put _ _ _ = a
              have e8 : a.eval (.tmp 8) = .pointer (some ⟨bn, 0, none⟩) := by rw [← ha]; go_simp
              clear ha
              exact quiet_loadC (C := Fm w [(w.heap.size, cpC c, 26), (v2.heap.size, cpC X, 26), (bn, cpC N, 26)]) bn N (fun _ h => h.get 2 _ _ _ rfl) (.tmp 8) rfl e8 u hy
            with_reducible refine quiet_one (.agg (cpC X)) ?_ ?_ ?_
            · kernel_rfl
            · intro u hy
              generalize ha : Act.put _ _ _ = a
              have e5 : a.eval (.tmp 5) = .pointer (some ⟨v2.heap.size, 0, none⟩) := by rw [← ha]; go_simp
              clear ha
              exact quiet_loadC (C := Fm w [(w.heap.size, cpC c, 26), (v2.heap.size, cpC X, 26), (bn, cpC N, 26)]) v2.heap.size X (fun _ h => h.get 1 _ _ _ rfl) (.tmp 5) rfl e5 u hy
            with_reducible refine quiet_one (.slice (some ⟨g, off, none⟩) len cap) ?_ ?_ ?_
            · kernel_rfl
            · intro u hy
              go_simp
            with_reducible refine quiet_one (.int .i64 (k : Int)) ?_ ?_ ?_
            · kernel_rfl
            · intro u hy
              go_simp
            with_reducible refine quiet_one (.pointer (some ⟨g, q, none⟩)) ?_ ?_ ?_
            · kernel_rfl
            · intro u hy
              go_simp
            with_reducible refine quiet_one (.agg (pnC p)) ?_ ?_ ?_
            · kernel_rfl
            · intro u hy
              generalize ha : Act.put _ _ _ = a
              have e64 : a.eval (.tmp 64) = .pointer (some ⟨g, q, none⟩) := by rw [← ha]; go_simp
              clear ha
              exact quiet_loadPm (C := Fm w [(w.heap.size, cpC c, 26), (v2.heap.size, cpC X, 26), (bn, cpC N, 26)]) g q p (fun _ h => hr'.out _ _ h) (.tmp 64) rfl e64 u hy
            with_reducible refine quiet_one (.agg (cpC N)) ?_ ?_ ?_
            · kernel_rfl
            · intro u hy
              have d := (hS2 u).mono fun e w' (h : _ ∧ _) => And.intro h.1 (hy.below h.2)
              go_simp
              all_goals exact d
            with_reducible refine quiet_one (.bool false) ?_ ?_ ?_
            · kernel_rfl
            · intro u hy
              generalize ha : Act.put _ _ _ = a
              have e60 : a.eval (.tmp 60) = .agg (cpC N) := by rw [← ha]; go_simp
              have e66 : a.eval (.tmp 66) = .agg (cpC N) := by rw [← ha]; go_simp
              clear ha
              exact quiet_neC (C := Fm w [(w.heap.size, cpC c, 26), (v2.heap.size, cpC X, 26), (bn, cpC N, 26)]) N N rfl (.tmp 60) (.tmp 66) _ rfl e60 e66 u hy
            refine wpQuiet_nil ?_
            intro z17 K17
            replace K17 : Hid (Fm w [(w.heap.size, cpC c, 26), (v2.heap.size, cpC X, 26), (bn, cpC N, 26)] z17) := K17
            go_simp
            go_wp2_with (first
              | (refine at_loadC bn N (K17.out.get 2 _ _ _ rfl) _ rfl rfl rfl ?_)
              | (refine at_storeC v2.heap.size X N (K17.out.get 1 _ _ _ rfl) _ _ rfl rfl rfl rfl ?_; intro y19 hw19; have K19 : Hid (Fm w [(w.heap.size, cpC c, 26), (v2.heap.size, cpC N, 26), (bn, cpC N, 26)] y19) := K17.out.put 1 _ _ _ _ rfl hw19.out))
            go_roundw
            case rel => exact ⟨k + 1, _, N, rfl, by have := hk'.out; omega, by simp, hNw, Fm.pre (l' := [(bn, cpC N, 26)]) K19.out⟩
            case measure => have := hk'.out; simp [intOf]; omega
    · have hke : k = len := by omega
      subst hke
      clear hk hlt hP'
      go_wp2
      refine region_class_tail 5 (Fm w [(w.heap.size, cpC c, 26), (v2.heap.size, cpC X, 26)]) (by kernel_rfl) (by kernel_rfl) (K.out.below (below_drew (Below.refl _ _))) ?_
      simp only [List.take_succ_cons, List.take_zero, List.drop_succ_cons, List.drop_zero]
      refine quiet_one (.agg (cpC X)) rfl (quiet_loadC v2.heap.size X (fun _ h => h.get 1 _ _ _ rfl) (.tmp 5) rfl (by go_simp)) ?_
      refine quiet_one (.int .i64 E) rfl (fun u hy => by
        have d := (hE1 u (tb'.out.below hy.low)).mono fun e w' (h : _ ∧ _) => And.intro h.1 (hy.below h.2)
        go_simp
        all_goals exact d) ?_
      refine quiet_one (.agg (cpC X)) rfl (fun u hy => by
        generalize ha : Act.put _ _ _ = a
        have e1 : a.eval (.tmp 5) = .pointer (some ⟨v2.heap.size, 0, none⟩) := by rw [← ha]; go_simp
        clear ha
        exact quiet_loadC (C := Fm w [(w.heap.size, cpC c, 26), (v2.heap.size, cpC X, 26)]) v2.heap.size X (fun _ h => h.get 1 _ _ _ rfl) (.tmp 5) rfl e1 u hy) ?_
      refine quiet_one (.int .i64 E) rfl (fun u hy => by
        have d := (hE2 u).mono fun e w' (h : _ ∧ _) => And.intro h.1 (hy.below h.2)
        go_simp
        all_goals exact d) ?_
      refine quiet_one (.bool true) rfl (fun u hy => by go_simp) ?_
      refine wpQuiet_nil ?_
      intro z20 K20
      replace K20 : Hid (Fm w [(w.heap.size, cpC c, 26), (v2.heap.size, cpC X, 26)] z20) := K20
      go_simp
      go_wp2
      go_ret
      exact ⟨by first | rfl | simp, K20.out.low⟩
theorem exact_walk (w : World) (c : Cp) (hc : c.wf) (a : Option Addr) (len cap : Nat) (hl : len ≤ maxLen) (hPin : PinsIn w a len) (tb : Tabs w) : Calls Tryz.prog 3 #[.agg (cpC c), .slice a len cap] w fun e w' => e = .returned (.bool true) ∧ Below w.heap.size w w' := by
  by_cases h : (2147483647 : Int) < len
  · exact exact_long w c a len cap hl h
  · exact exact_short w c hc a len cap (by omega) hPin tb
end Go.Proofs.YtbeeefekndcgnaaGreatDoor
