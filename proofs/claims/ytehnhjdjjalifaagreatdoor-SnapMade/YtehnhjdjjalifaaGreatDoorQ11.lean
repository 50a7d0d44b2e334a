/- The program's own: Save. -/
import Derived.Test.YtehnhjdjjalifaaGreatDoorQ10
import Derived.Test.YtehnhjdjjalifaaGreatDoorQ0
namespace Go.Proofs.YtehnhjdjjalifaaGreatDoor
open Go Go.RowKit Go.Shelf
set_option linter.unusedVariables false
set_option maxHeartbeats 4000000
set_option maxRecDepth 20000

theorem pc_len (s : Bd) (hf : s.Fit) (i : Nat) (hi : i < 37) : (pcB s i).length ≤ 65536 := by
  have hR := hf.ram
  have hO := hf.rom
  rcases (show i = 0 ∨ i = 1 ∨ i = 2 ∨ i = 3 ∨ i = 4 ∨ i = 5 ∨ i = 6 ∨ i = 7 ∨ i = 8 ∨ i = 9 ∨ i = 10 ∨ i = 11 ∨ i = 12 ∨ i = 13 ∨ i = 14 ∨ i = 15 ∨ i = 16 ∨ i = 17 ∨ i = 18 ∨ i = 19 ∨ i = 20 ∨ i = 21 ∨ i = 22 ∨ i = 23 ∨ i = 24 ∨ i = 25 ∨ i = 26 ∨ i = 27 ∨ i = 28 ∨ i = 29 ∨ i = 30 ∨ i = 31 ∨ i = 32 ∨ i = 33 ∨ i = 34 ∨ i = 35 ∨ i = 36 by omega) with rfl | rfl | rfl | rfl | rfl | rfl | rfl | rfl | rfl | rfl | rfl | rfl | rfl | rfl | rfl | rfl | rfl | rfl | rfl | rfl | rfl | rfl | rfl | rfl | rfl | rfl | rfl | rfl | rfl | rfl | rfl | rfl | rfl | rfl | rfl | rfl | rfl
  · show ([86, 83, 80, 49]).length ≤ _; exact (by decide : 4 ≤ 65536)
  · show (putN (s.r.getD 0 0) 2).length ≤ _; rw [putN_len]; decide
  · show (putN (s.r.getD 1 0) 2).length ≤ _; rw [putN_len]; decide
  · show (putN (s.r.getD 2 0) 2).length ≤ _; rw [putN_len]; decide
  · show (putN (s.r.getD 3 0) 2).length ≤ _; rw [putN_len]; decide
  · show (putN (s.r.getD 4 0) 2).length ≤ _; rw [putN_len]; decide
  · show (putN (s.r.getD 5 0) 2).length ≤ _; rw [putN_len]; decide
  · show (putN (s.r.getD 6 0) 2).length ≤ _; rw [putN_len]; decide
  · show (putN (s.r.getD 7 0) 2).length ≤ _; rw [putN_len]; decide
  · show (putN (s.r.getD 8 0) 2).length ≤ _; rw [putN_len]; decide
  · show (putN (s.r.getD 9 0) 2).length ≤ _; rw [putN_len]; decide
  · show (putN (s.r.getD 10 0) 2).length ≤ _; rw [putN_len]; decide
  · show (putN (s.r.getD 11 0) 2).length ≤ _; rw [putN_len]; decide
  · show (putN (s.r.getD 12 0) 2).length ≤ _; rw [putN_len]; decide
  · show (putN (s.r.getD 13 0) 2).length ≤ _; rw [putN_len]; decide
  · show (putN (s.r.getD 14 0) 2).length ≤ _; rw [putN_len]; decide
  · show (putN (s.r.getD 15 0) 2).length ≤ _; rw [putN_len]; decide
  · show (putN s.d.toNat 1).length ≤ _; rw [putN_len]; decide
  · show ([flB s.df]).length ≤ _; exact (by decide : 1 ≤ 65536)
  · show (putN s.p.toNat 1).length ≤ _; rw [putN_len]; decide
  · show (putN s.x.toNat 1).length ≤ _; rw [putN_len]; decide
  · show (putN s.t.toNat 1).length ≤ _; rw [putN_len]; decide
  · show ([flB s.ie]).length ≤ _; exact (by decide : 1 ≤ 65536)
  · show ([flB s.q]).length ≤ _; exact (by decide : 1 ≤ 65536)
  · show (putN s.op.toNat 1).length ≤ _; rw [putN_len]; decide
  · show (putN s.b.toNat 1).length ≤ _; rw [putN_len]; decide
  · show (putN s.ph.toNat 1).length ≤ _; rw [putN_len]; decide
  · show (putN s.ln.toNat 2).length ≤ _; rw [putN_len]; decide
  · show (putN s.cy.toNat 1).length ≤ _; rw [putN_len]; decide
  · show ([flB s.on]).length ≤ _; exact (by decide : 1 ≤ 65536)
  · show (putN s.gt.toNat 1).length ≤ _; rw [putN_len]; decide
  · show (putN s.pd.toNat 1).length ≤ _; rw [putN_len]; decide
  · show ([flB s.lt]).length ≤ _; exact (by decide : 1 ≤ 65536)
  · show (putN s.cc 8).length ≤ _; rw [putN_len]; decide
  · show (putN s.ram.length 2).length ≤ _; rw [putN_len]; decide
  · show (s.ram).length ≤ _; omega
  · show (s.rom).length ≤ _; omega
def preB (s : Bd) (i : Nat) : List UInt8 := (List.range i).flatMap (pcB s)
theorem preB_succ (s : Bd) (i : Nat) : preB s (i + 1) = preB s i ++ pcB s i := by
  unfold preB
  rw [List.range_succ, List.flatMap_append]
  simp
theorem preB_len (s : Bd) (hf : s.Fit) : ∀ i, i ≤ 37 → (preB s i).length ≤ i * 65536
  | 0, _ => by unfold preB; simp
  | i + 1, h => by
    rw [preB_succ, List.length_append]
    have h1 := preB_len s hf i (by omega)
    have h2 := pc_len s hf i (by omega)
    omega
theorem psave_bad (w : World) (tb : Hid (Tbs w)) (C : Array Value) (s : Bd) (hs : Hid (BL w C s)) (h : chkB s ≠ 0) :
    Calls Tryz.prog 7 #[.agg C] w fun e w' => e = .returned (.tuple #[.slice none 0 0, .int .i64 212]) ∧ Hid (Below w.heap.size w w') := by
  have sC : Hid (C.size = 35) := hs.out.size
  obtain ⟨E, hE⟩ : ∃ z, chkB s = z := ⟨_, rfl⟩
  have hC : Hid (∀ y, Below w.heap.size w y → Calls Tryz.prog 15 #[.agg C] y fun e w' => e = .returned (.int .i64 E) ∧ Below y.heap.size y w') := fun y hy => by rw [← hE]; exact bchk_any y (tb.out.below hy) C s (hs.out.below hy)
  rw [hE] at h
  have qE : (E != 0) = true := by rw [bne_iff_ne]; exact h
  clear hs tb h hE
  go_enter Tryz.func7, Tryz.ntmps7
  go_wp2_with (first
    | ((with_reducible refine gen_world (w.alloc (.cells C 34)) (Fm w [(w.heap.size, C, 34)]) ?_ ?_); exact Fm.one w _ _; intro y0 K0)
    | ((with_reducible refine at_load rtBd w.heap.size C ?_ ?_ (.tmp 1) ?_ ?_ ?_ ?_); exact K0.out.bx 0 _ _ _ rfl; exact sC.out; kernel_rfl; rfl; rfl)
    | (go_at_call 15; refine (hC.out y0 K0.out.low).mono ?_; rintro e y1 ⟨rfl, H⟩; have K1 : Hid (Fm w [(w.heap.size, C, 34)] y1) := K0.out.below H; clear H))
  go_ret2
  exact ⟨rfl, K1.out.low⟩
theorem psave_ok (w : World) (tb : Hid (Tbs w)) (C : Array Value) (s : Bd) (hs : Hid (BL w C s)) (h : chkB s = 0) :
    Calls Tryz.prog 7 #[.agg C] w fun e w' => ∃ v, e = .returned (.tuple #[v, .int .i64 0]) ∧ Hid (KL 5 1 cB w v (savB s) w') := by
  have sC : Hid (C.size = 35) := hs.out.size
  have hC : Hid (∀ y, Below w.heap.size w y → Calls Tryz.prog 15 #[.agg C] y fun e w' => e = .returned (.int .i64 0) ∧ Below y.heap.size y w') := fun y hy => by rw [← h]; exact bchk_any y (tb.out.below hy) C s (hs.out.below hy)
  obtain ⟨hf, h0R⟩ := chk_fit hs.out.ok h
  obtain ⟨sR, cR, sO, cO, hCe, lR, lO⟩ := hs.out.c
  obtain ⟨gR, oR, rfl⟩ := lb_some lR h0R
  obtain ⟨gO, oO, rfl⟩ := lb_some lO (by rw [hf.rom]; decide)
  have hWr : Hid (∀ (i : Nat) (x : Rv) (z : World), i < 37 → RwK i x z → Below w.heap.size w z → ∀ (B : Nat) (v : Value) (l : List UInt8), Hid (OwnL 5 1 cB B z v l) → Hid (B ≤ z.heap.size) → Hid (l.length ≤ 10000000000) → (i = 0 → v = .slice none 0 0 ∧ l = []) → (∀ args w, (callFunc x.kw args).run Tryz.prog w = .ok (.enter x.kw args) w) ∧ Calls Tryz.prog x.kw (#[v, .agg C] ++ x.cw) z fun e w' => ∃ v', e = .returned v' ∧ Hid (OwnL 5 1 cB B w' v' (l ++ pcB s i) ∧ Below B z w')) :=
    fun i x z hi hx hz B v l hv hB hl h0 => row_write i hi x z hx s hf h0R gR oR cR gO oO cO C hCe (lR.below hz) (lO.below hz) B v l hv hB hl h0
  have hlen : Hid (∀ i, i ≤ 37 → (preB s i).length ≤ 9000000000) := fun i hi => by have := preB_len s hf i hi; omega
  have hfin : Hid (preB s 37 = bodyB s) := pcB_all s hf.ok.r
  obtain ⟨LF, hLF⟩ : ∃ z, savB s = z := ⟨_, rfl⟩
  rw [hLF]
  have hfin2 : Hid (LF = bodyB s ++ putN (sumB (bodyB s)) 8) := hLF.symm
  clear hs h h0R hCe lR lO hf hLF
  go_enter Tryz.func7, Tryz.ntmps7
  go_wp2_with (first
    | ((with_reducible refine gen_world (w.alloc (.cells C 34)) (Fm w [(w.heap.size, C, 34)]) ?_ ?_); exact Fm.one w _ _; intro y0 K0)
    | ((with_reducible refine at_load rtBd w.heap.size C ?_ ?_ (.tmp 1) ?_ ?_ ?_ ?_); exact K0.out.bx 0 _ _ _ rfl; exact sC.out; kernel_rfl; rfl; rfl)
    | (go_at_call 15; refine (hC.out y0 K0.out.low).mono ?_; rintro e y1 ⟨rfl, H⟩; have K1 : Hid (Fm w [(w.heap.size, C, 34)] y1) := K0.out.below H; clear H hC)
    | (go_at_call 16; refine (rows_any y1).mono ?_; rintro e y2 ⟨vr, lr, rfl, H⟩; obtain ⟨sv, cv, hvr, hli⟩ := H.out.1.own.open kRow.len; rw [H.out.2] at hvr; subst hvr; have K2 : Hid (Fm w [(w.heap.size, C, 34)] y2 ∧ LiesL 3 c3 y2 sv lr ∧ lr.length = 37 ∧ ∀ i x, lr[i]? = some x → RwK i x y2) := ⟨K1.out.below (H.out.1.low), hli.1, H.out.2, fun i x hi => H.out.1.rw i x (by rw [List.append_nil]; exact hi)⟩; clear H hli))
  clear K0 K1
  go_loopw [4, 12] (fun sv' tv wz => ∃ (i : Nat) (v : Value) (y : World), y = wz ∧ i ≤ 37 ∧ sv' = v ∧ tv = .int .i64 (i : Int) ∧ Hid (Below y2.heap.size y2 y ∧ OwnL 5 1 cB y2.heap.size y v (preB s i) ∧ (i = 0 → v = .slice none 0 0))) (fun _ tv _ => (37 - intOf tv).toNat)
  case atStart => exact ⟨0, _, y2, rfl, by decide, rfl, rfl, Below.refl _ _, OwnL.nil _ _, fun _ => rfl⟩
  case round =>
    obtain ⟨i, v, y, rfl, hi, hv, rfl, K⟩ := hrel
    replace hv := hv.symm
    subst hv
    by_cases hlt : i < 37
    · have hii : (i : Int) < 37 := by omega
      have hlt' : Hid (i < 37) := hlt
      obtain ⟨x, hx⟩ : ∃ x, lr[i]? = some x := ⟨_, List.getElem?_eq_getElem (by rw [K2.out.2.2.1]; exact hlt)⟩
      have hKx := K2.out.2.2.2 i x hx
      obtain ⟨gr, orr, hsv, hrg⟩ := K2.out.2.1 i x hx
      have ix := fun u => idxP (P := Tryz.prog) (g := gr) (off := orr) (len := 37) (cap := cv) Tryz.underlying49 (s := 3) (by kernel_rfl) .i64 i u hlt
      subst hsv
      have hrg' : Hid (∀ u, Below y2.heap.size y2 u → u.rangeAt gr (orr + i * 3) (c3 x)) := fun u hu j v hv => (hu.cell (World.block_lt_of_cell? y2 _ (hrg j v hv))).trans (hrg j v hv)
      obtain ⟨vs, hvs⟩ : ∃ z, Value.func (.func x.ks) #[] x.cs = z := ⟨_, rfl⟩
      obtain ⟨kw, hkw⟩ : ∃ z, x.kw = z := ⟨_, rfl⟩
      obtain ⟨cw, hcw⟩ : ∃ z, x.cw = z := ⟨_, rfl⟩
      obtain ⟨vq, hvq⟩ : ∃ z, Value.func (.func x.kr) #[] x.cr = z := ⟨_, rfl⟩
      obtain ⟨X, hX⟩ : ∃ z : Array Value, (c3 x).toArray = z := ⟨_, rfl⟩
      have hXs : Hid (X.size = 3 ∧ X.all (·.oneCell') = true ∧ X[1]? = some (.func (.func kw) #[] cw)) := by
        rw [← hX, ← hkw, ← hcw]
        exact ⟨rfl, c3_one x, rfl⟩
      have hrg2 : Hid (∀ u, Below y2.heap.size y2 u → u.rangeAt gr (orr + i * 3) X.toList) := fun u hu => by rw [← hX]; exact hrg'.out u hu
      have hw := hWr.out i x
      rw [hkw, hcw] at hw
      have hW : Hid (∀ (z : World), Below y2.heap.size y2 z → Below w.heap.size w z → ∀ (v : Value) (l : List UInt8), Hid (OwnL 5 1 cB y2.heap.size z v l) → Hid (y2.heap.size ≤ z.heap.size) → Hid (l.length ≤ 10000000000) → (i = 0 → v = .slice none 0 0 ∧ l = []) → (∀ args w, (callFunc kw args).run Tryz.prog w = .ok (.enter kw args) w) ∧ Calls Tryz.prog kw (#[v, .agg C] ++ cw) z fun e w' => ∃ v', e = .returned v' ∧ Hid (OwnL 5 1 cB y2.heap.size w' v' (l ++ pcB s i) ∧ Below y2.heap.size z w')) := fun z h1 h2 v l a1 a2 a3 a4 => hw z hlt (hKx.keep hlt (KpT.of_below h1)) h2 y2.heap.size v l a1 a2 a3 a4
      have ek := (hW.out y K.out.1 (K2.out.1.low.trans (K.out.1.mono K2.out.1.low.size)) v (preB s i) K.out.2.1 K.out.1.size (by have := hlen.out i (by omega); show _ ≤ _; omega) (fun e => ⟨K.out.2.2 e, by rw [e]; rfl⟩)).1
      clear hX hkw hcw hvs hvq hw hKx hx hrg hrg' hi hlt
      go_wp2_with (first
        | ((with_reducible refine at_loadm rtRw gr (orr + i * 3) X ?_ ?_ (.tmp 14) ?_ ?_ ?_ ?_); exact hrg2.out y K.out.1; exact hXs.out.1; kernel_rfl; rfl; rfl)
        | ((with_reducible refine gen_world (y.alloc (.cells #[.nilFunc, .nilFunc, .nilFunc] 55)) (fun z => Bx z y.heap.size #[.nilFunc, .nilFunc, .nilFunc] 55 ∧ Below y.heap.size y z) ?_ ?_); exact ⟨one_bxL _ _ _, below1 y _⟩; intro y3 K3)
        | ((with_reducible refine at_st rtRw y.heap.size #[.nilFunc, .nilFunc, .nilFunc] X ?_ ?_ ?_ ?_ (.tmp 6) (.tmp 15) ?_ ?_ ?_ ?_ ?_); exact K3.out.1; rfl; exact hXs.out.1; exact hXs.out.2.1; rfl; rfl; rfl; rfl; intro y4 h4; have K4 : Hid (Bx y4 y.heap.size X 55 ∧ Below y.heap.size y y4) := ⟨h4.out.1, K3.out.2.trans (h4.out.2.1 _ (Nat.le_refl _))⟩; have c1 := K4.out.1.c 1 _ hXs.out.2.2; have K5 : Hid (Below y2.heap.size y2 y4 ∧ Fm w [(w.heap.size, C, 34)] y4) := ⟨K.out.1.trans (K4.out.2.mono K.out.1.size), K2.out.1.below (K.out.1.trans (K4.out.2.mono K.out.1.size))⟩; clear h4 K3)
        | ((with_reducible refine at_load rtBd w.heap.size C ?_ ?_ (.tmp 1) ?_ ?_ ?_ ?_); exact K5.out.2.bx 0 _ _ _ rfl; exact sC.out; kernel_rfl; rfl; rfl)
        | (go_at_fn kw; refine (hW.out y4 K5.out.1 K5.out.2.low v (preB s i) (K.out.2.1.below K4.out.2) K5.out.1.size (by have := hlen.out i (Nat.le_of_lt hlt'.out); show _ ≤ _; omega) (fun e => ⟨K.out.2.2 e, by rw [e]; rfl⟩)).2.mono ?_; rintro e y6 ⟨v6, rfl, H⟩; have K6 : Hid (Below y2.heap.size y2 y6 ∧ OwnL 5 1 cB y2.heap.size y6 v6 (preB s (i + 1)) ∧ (i + 1 = 0 → v6 = .slice none 0 0)) := ⟨K5.out.1.trans H.out.2, by rw [preB_succ]; exact H.out.1, fun e => absurd e (Nat.succ_ne_zero i)⟩; clear H))
      go_roundw
      case rel => exact ⟨i + 1, v6, y6, rfl, hlt'.out, rfl, by simp, K6⟩
      case measure => have := hlt'.out; simp [intOf]; omega
    · obtain rfl : i = 37 := by omega
      obtain ⟨s8, c8, hv8, hb8, _⟩ := K.out.2.1.open kByte.len
      have hl8 : Hid (preB s 37 = bodyB s ∧ (bodyB s).length ≤ 9000000000) := ⟨hfin.out, by rw [← hfin.out]; exact hlen.out 37 (by decide)⟩
      have hK : Hid (Below y2.heap.size y2 y ∧ OwnL 5 1 cB y2.heap.size y v (bodyB s)) := ⟨K.out.1, by rw [← hl8.out.1]; exact K.out.2.1⟩
      rw [hl8.out.1] at hv8 hb8
      obtain ⟨n8, hn8⟩ : ∃ z, (bodyB s).length = z := ⟨_, rfl⟩
      rw [hn8] at hv8
      subst hv8
      have hn8' : Hid ((bodyB s).length = n8) := hn8
      have hb8' : Hid (LB y s8 (bodyB s)) := hb8
      have hn9 : n8 ≤ 9000000000 := by rw [← hn8]; exact hl8.out.2
      have hS : Hid (∀ z, z = y → Calls Tryz.prog 18 #[.slice s8 n8 c8] z fun e w' => e = .returned (.int .u64 (sumB (bodyB s) : Nat)) ∧ w' = z) := fun z hz => by subst hz; exact psum_any z s8 n8 c8 (bodyB s) hb8' hn8' hn9
      have hSU : Hid (sumB (bodyB s) < 18446744073709551616) := sumB_lt _
      have hl10 : Hid ((bodyB s).length ≤ 10000000000) := by have := hl8.out.2; show _ ≤ _; omega
      generalize sumB (bodyB s) = SU at hS hSU hfin2
      clear hi hlt K hb8 hn8 hn9
      go_wp2_with (first
        | (go_at_call 18; refine (hS.out y rfl).mono ?_; rintro e y ⟨rfl, rfl⟩)
        | (go_at_call 17; refine (app_q y y2.heap.size (.slice s8 n8 c8) (bodyB s) hK.out.2 hK.out.1.size hl10 SU hSU.out).mono ?_; rintro e y9 ⟨v9, rfl, H⟩; have K9 : Hid (KL 5 1 cB w v9 LF y9) := ⟨by rw [hfin2.out]; exact H.out.1.weak K2.out.1.low.size, K2.out.1.low.trans ((hK.out.1.trans H.out.2).mono K2.out.1.low.size)⟩; clear H))
      go_ret2
      exact ⟨v9, rfl, K9⟩
theorem psave_any (w : World) (tb : Hid (Tbs w)) (C : Array Value) (s : Bd) (hs : Hid (BL w C s)) : Calls Tryz.prog 7 #[.agg C] w (SvE w s) := by
  by_cases h : chkB s = 0
  · exact (psave_ok w tb C s hs h).mono fun e w' k => .inl ⟨h, k⟩
  · exact (psave_bad w tb C s hs h).mono fun e w' k => .inr ⟨h, k⟩
end Go.Proofs.YtehnhjdjjalifaaGreatDoor
