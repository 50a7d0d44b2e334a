/- Whether the program is awake. -/
import Derived.Test.YtehnhjdjjalifaaGreatDoorQ16
namespace Go.Proofs.YtehnhjdjjalifaaGreatDoor
open Go Go.RowKit Go.Shelf
set_option linter.unusedVariables false
set_option maxHeartbeats 4000000
set_option maxRecDepth 20000

theorem zLd (w : World) {l : List UInt8} {e : Ending} {w' : World} (h : LdE w l e w') : ∃ M E, e = .returned (.tuple #[.agg M, .int .i64 E]) ∧ Hid (Below w.heap.size w w') ∧ ((formB l = true ∧ sumOk l = true ∧ chkB (bdOf l) = 0 ∧ E = 0 ∧ Hid (MOk w l M w')) ∨ (¬ (formB l = true ∧ sumOk l = true ∧ chkB (bdOf l) = 0) ∧ (E = 210 ∨ E = 211 ∨ E = 212) ∧ (formB l = false → E = 210) ∧ M = zBd)) := by
  rcases h with ⟨h1, rfl, h⟩ | ⟨h1, h2, rfl, h⟩ | ⟨h1, h2, h3, rfl, h⟩ | ⟨h1, h2, h3, M, rfl, h⟩
  · exact ⟨zBd, 210, rfl, h, .inr ⟨fun k => (by rw [h1] at k; cases k.1), .inl rfl, fun _ => rfl, rfl⟩⟩
  · exact ⟨zBd, 211, rfl, h, .inr ⟨fun k => (by rw [h2] at k; cases k.2.1), .inr (.inl rfl), fun k => (by rw [h1] at k; cases k), rfl⟩⟩
  · exact ⟨zBd, 212, rfl, h, .inr ⟨fun k => h3 k.2.2, .inr (.inr rfl), fun k => (by rw [h1] at k; cases k), rfl⟩⟩
  · exact ⟨M, 0, rfl, h.out.1, .inl ⟨h1, h2, h3, rfl, h.out.2⟩⟩
theorem BL.facts {w : World} {C : Array Value} {s : Bd} (h : BL w C s) : C.size = 35 ∧ C.all (·.oneCell') = true := by
  obtain ⟨⟨sR, cR, sO, cO, rfl, _⟩, _⟩ := h
  exact ⟨rfl, bCs_one _ _ _ _ _ _ _⟩
theorem byte_lb {w : World} {g o : Nat} {l : List UInt8} (h : LB w (some ⟨g, o, none⟩) l) (k : Nat) (hk : k < l.length) (c : Nat) (hc : (byteB l k).toNat = c) : w.cell? ⟨g, o + k, none⟩ = some (.int .u8 (c : Int)) := by
  rw [← hc]
  exact lb_at h k hk
theorem awake_any (w : World) (tb : Hid (Tbs w)) : Calls Tryz.prog 10 #[] w fun e w' => e = .returned (.bool true) ∧ Below w.heap.size w w' := by
  have hS : Hid (∀ y M, Below w.heap.size w y → BL y M sBd → Calls Tryz.prog 7 #[.agg M] y fun e w' => ∃ v, e = .returned (.tuple #[v, .int .i64 0]) ∧ Hid (KL 5 1 cB y v (savB sBd) w')) := fun y M hy hM => (psave_any y (tb.out.below hy) M sBd hM).mono fun e w' h => by
    rcases h with ⟨_, h⟩ | ⟨h, _⟩
    · exact h
    · exact absurd sBd_chk h
  obtain ⟨lf1, lf2, lf3⟩ := load_sav sBd (chk_fit sBd_ok sBd_chk).1
  have sLen := sBd_len
  obtain ⟨P, hP⟩ : ∃ z, savB sBd = z := ⟨_, rfl⟩
  have hb := sBd_at
  rw [hP] at hS lf1 lf2 lf3 sLen hb
  have hcut : formB (P.take 2630) = false := cut_off P lf1 2630 (by rw [sLen]; decide)
  have hL1 : Hid (∀ y sp cap, Below w.heap.size w y → LB y sp P → 2631 ≤ cap → Calls Tryz.prog 11 #[.slice sp 2631 cap] y fun e w' => ∃ M, e = .returned (.tuple #[.agg M, .int .i64 0]) ∧ Hid (Below y.heap.size y w' ∧ BL w' M sBd)) := fun y sp cap hy hl hc => by
    have := pload_any y (tb.out.below hy) sp cap P hl (by rw [sLen]; decide) (by rw [sLen]; exact hc)
    rw [sLen] at this
    refine this.mono fun e w' h => ?_
    obtain ⟨M, E, rfl, hb, h⟩ := zLd y h
    rcases h with ⟨_, _, _, rfl, hM⟩ | ⟨h, _⟩
    · refine ⟨M, rfl, hb.out, ?_⟩
      have := hM.out.bl
      rw [lf3] at this
      exact this
    · exact absurd ⟨lf1, lf2, by rw [lf3]; exact sBd_chk⟩ h
  have hL2 : Hid (∀ y sp cap, Below w.heap.size w y → LB y sp (P.take 2630) → 2630 ≤ cap → Calls Tryz.prog 11 #[.slice sp 2630 cap] y fun e w' => e = .returned (.tuple #[.agg zBd, .int .i64 210]) ∧ Hid (Below y.heap.size y w')) := fun y sp cap hy hl hc => by
    have e : (P.take 2630).length = 2630 := by rw [List.length_take, sLen]; decide
    have := pload_any y (tb.out.below hy) sp cap (P.take 2630) hl (by rw [e]; decide) (by rw [e]; exact hc)
    rw [e] at this
    refine this.mono fun e w' h => ?_
    obtain ⟨M, E, rfl, hb, k⟩ := zLd y h
    rcases k with ⟨k, _⟩ | ⟨_, _, k, k2⟩
    · rw [hcut] at k; cases k
    · rw [k hcut, k2]; exact ⟨rfl, hb⟩
  have hSm : Hid (∀ y A B, BL y A sBd → BL y B sBd → Calls Tryz.prog 13 #[.agg A, .agg B] y fun e w' => e = .returned (.bool true) ∧ Below y.heap.size y w') := fun y A B h1 h2 => same08_true y A B sBd h1 h2 (by rw [sBd_ram]; decide) (by rw [sBd_rom]; decide)
  have hBy : Hid (P.length = 2631 ∧ (byteB P 0).toNat = 86 ∧ (byteB P 41).toNat = 1 ∧ (byteB P 45).toNat = 5 ∧ (byteB P 52).toNat = 1 ∧ (byteB P 62).toNat = 8) := by
    obtain ⟨b1, b2, b3, b4, b5⟩ := hb
    rw [b1, b2, b3, b4, b5]
    exact ⟨sLen, rfl, rfl, rfl, rfl, rfl⟩
  clear lf1 lf2 lf3 sLen hP hb hcut
  go_enter Tryz.func10, Tryz.ntmps10
  go_wp2_with (first
    | (go_at_call 22; refine (start_any w).mono ?_; rintro e y0 ⟨M0, rfl, H⟩; have K0 : Hid (BL y0 M0 sBd ∧ Below w.heap.size w y0) := H; clear H)
    | (go_at_call 7; refine (hS.out y0 M0 K0.out.2 K0.out.1).mono ?_; rintro e y1 ⟨v, rfl, H⟩; obtain ⟨s8, c8, hv8, hb8, hA8, _, hc8⟩ := H.out.own.open kByte.len; rw [hBy.out.1] at hv8 hc8; subst hv8; obtain ⟨g8, o8, hs8⟩ := lb_some hb8 (by rw [hBy.out.1]; decide); subst hs8; have K1 : Hid (Below w.heap.size w y1 ∧ LB y1 (some ⟨g8, o8, none⟩) P ∧ 2631 ≤ c8) := ⟨K0.out.2.trans (H.out.low.mono K0.out.2.size), hb8, hc8⟩; have p0 := byte_lb hb8 0 (by rw [hBy.out.1]; decide) 86 hBy.out.2.1; have p1 := byte_lb hb8 41 (by rw [hBy.out.1]; decide) 1 hBy.out.2.2.1; have p2 := byte_lb hb8 45 (by rw [hBy.out.1]; decide) 5 hBy.out.2.2.2.1; have p3 := byte_lb hb8 52 (by rw [hBy.out.1]; decide) 1 hBy.out.2.2.2.2.1; have p4 := byte_lb hb8 62 (by rw [hBy.out.1]; decide) 8 hBy.out.2.2.2.2.2; have i0 := fun u => idxB .i64 g8 o8 2631 c8 0 u (by decide); have i1 := fun u => idxB .i64 g8 o8 2631 c8 41 u (by decide); have i2 := fun u => idxB .i64 g8 o8 2631 c8 45 u (by decide); have i3 := fun u => idxB .i64 g8 o8 2631 c8 52 u (by decide); have i4 := fun u => idxB .i64 g8 o8 2631 c8 62 u (by decide); simp only [Nat.add_zero, Int.cast_ofNat_Int] at p0 p1 p2 p3 p4 i0 i1 i2 i3 i4; clear H hb8 hA8 hc8)
    | (go_at_call 11; refine (hL2.out y4 sp1 c8 K4.out.2.1 hlb1'.out (Nat.le_trans (by decide) K1.out.2.2)).mono ?_; rintro e y5 ⟨rfl, H⟩; have K5 : Hid (Bx y5 y2.heap.size M2 34 ∧ Below w.heap.size w y5 ∧ BL y5 M2 sBd) := ⟨(H.out.block _ (heap_lt K4.out.1)).trans K4.out.1, K4.out.2.1.trans (H.out.mono K4.out.2.1.size), K4.out.2.2.1.below H.out⟩; clear H)
    | (go_at_call 11; refine (hL1.out y1 (some ⟨g8, o8, none⟩) c8 K1.out.1 K1.out.2.1 K1.out.2.2).mono ?_; rintro e y2 ⟨M2, rfl, H⟩; have hM2 : Hid (M2.size = 35 ∧ M2.all (·.oneCell') = true) := BL.facts H.out.2; have K2 : Hid (Below w.heap.size w y2 ∧ BL y2 M2 sBd ∧ LB y2 (some ⟨g8, o8, none⟩) P) := ⟨K1.out.1.trans (H.out.1.mono K1.out.1.size), H.out.2, K1.out.2.1.below H.out.1⟩; clear H p0 p1 p2 p3 p4 i0 i1 i2 i3 i4)
    | ((with_reducible refine gen_world (y2.alloc (.cells #[.int .u16 0, .int .u16 0, .int .u16 0, .int .u16 0, .int .u16 0, .int .u16 0, .int .u16 0, .int .u16 0, .int .u16 0, .int .u16 0, .int .u16 0, .int .u16 0, .int .u16 0, .int .u16 0, .int .u16 0, .int .u16 0, .int .u8 0, .bool false, .int .u8 0, .int .u8 0, .int .u8 0, .bool false, .bool false, .int .u8 0, .int .u8 0, .int .u8 0, .int .i64 0, .int .i64 0, .bool false, .int .i64 0, .int .u8 0, .bool false, .slice none 0 0, .slice none 0 0, .int .u64 0] 34)) (fun z => Bx z y2.heap.size zBd 34 ∧ Below y2.heap.size y2 z) ?_ ?_); exact ⟨one_bxL _ _ _, below1 y2 _⟩; intro y3 K3)
    | ((with_reducible refine at_st rtBd y2.heap.size zBd M2 ?_ ?_ ?_ ?_ (.tmp 3) (.tmp 52) ?_ ?_ ?_ ?_ ?_); exact K3.out.1; rfl; exact hM2.out.1; exact hM2.out.2; rfl; rfl; rfl; rfl; intro y4 h4; have K4 : Hid (Bx y4 y2.heap.size M2 34 ∧ Below w.heap.size w y4 ∧ BL y4 M2 sBd ∧ LB y4 (some ⟨g8, o8, none⟩) P) := (have b4 : Below y2.heap.size y2 y4 := K3.out.2.trans (h4.out.2.1 _ (Nat.le_refl _)); ⟨h4.out.1, K2.out.1.trans (b4.mono K2.out.1.size), K2.out.2.1.below b4, K2.out.2.2.below b4⟩); clear h4 K3; obtain ⟨sp1, hsl1, hlb1, _⟩ := slTakeB (some ⟨g8, o8, none⟩) 2631 c8 2630 (by decide) K1.out.2.2; simp only [Int.cast_ofNat_Int] at hsl1; have hlb1' : Hid (LB y4 sp1 (P.take 2630)) := hlb1 y4 P K4.out.2.2.2; clear hlb1)
    | ((with_reducible refine gen_world (y5.alloc (.cells #[.int .u16 0, .int .u16 0, .int .u16 0, .int .u16 0, .int .u16 0, .int .u16 0, .int .u16 0, .int .u16 0, .int .u16 0, .int .u16 0, .int .u16 0, .int .u16 0, .int .u16 0, .int .u16 0, .int .u16 0, .int .u16 0, .int .u8 0, .bool false, .int .u8 0, .int .u8 0, .int .u8 0, .bool false, .bool false, .int .u8 0, .int .u8 0, .int .u8 0, .int .i64 0, .int .i64 0, .bool false, .int .i64 0, .int .u8 0, .bool false, .slice none 0 0, .slice none 0 0, .int .u64 0] 34)) (fun z => Bx z y5.heap.size zBd 34 ∧ Below y5.heap.size y5 z) ?_ ?_); exact ⟨one_bxL _ _ _, below1 y5 _⟩; intro y6 K6)
    | ((with_reducible refine at_st rtBd y5.heap.size zBd zBd ?_ ?_ ?_ ?_ (.tmp 5) (.tmp 58) ?_ ?_ ?_ ?_ ?_); exact K6.out.1; rfl; rfl; exact zBd_one; rfl; rfl; rfl; rfl; intro y7 h7; have K7 : Hid (Bx y7 y2.heap.size M2 34 ∧ Below w.heap.size w y7 ∧ BL y7 M2 sBd) := (have b4 : Below y5.heap.size y5 y7 := K6.out.2.trans (h7.out.2.1 _ (Nat.le_refl _)); ⟨(b4.block _ (heap_lt K5.out.1)).trans K5.out.1, K5.out.2.1.trans (b4.mono K5.out.2.1.size), K5.out.2.2.below b4⟩); clear h7 K6))
  have hD : Hid (Bx y7.drew y2.heap.size M2 34) := K7.out.1
  have hD2 : Hid (Below w.heap.size w y7.drew ∧ BL y7.drew M2 sBd) := ⟨below_drew K7.out.2.1, K7.out.2.2.below (below_drew (Below.refl _ _))⟩
  refine wp_region_held_drew (S := fun z => Bx z y2.heap.size M2 34) (by kernel_rfl) hD.out (fun hH => ?_)
  generalize y7.drew = z7 at hH hD2 ⊢
  clear hD
  refine wpAnyH_take (oi := ⟨some 60, _, _, _, _, _⟩) (i := 0) (v := .int .i64 0) rfl (by kernel_rfl) (by kernel_rfl) (by kernel_rfl) (fun _ _ _ h => h) (.inl ⟨by kernel_rfl, fun u hu => by go_simp⟩) hH ?_
  try simp only [Act.put, List.setIfInBounds_toArray, List.set_cons_zero, List.set_cons_succ]
  refine wpAnyH_take (oi := ⟨some 61, _, _, _, _, _⟩) (i := 1) (v := .bool true) rfl (by kernel_rfl) (by kernel_rfl) (by kernel_rfl) (fun _ _ _ h => h) (.inl ⟨by kernel_rfl, fun u hu => by go_simp⟩) hH ?_
  try simp only [Act.put, List.setIfInBounds_toArray, List.set_cons_zero, List.set_cons_succ]
  refine wpAnyH_take (oi := ⟨some 62, _, _, _, _, _⟩) (i := 2) (v := .bool true) rfl (by kernel_rfl) (by kernel_rfl) (by kernel_rfl) (fun _ _ _ h => h) (.inl ⟨by kernel_rfl, fun u hu => by go_simp⟩) hH ?_
  try simp only [Act.put, List.setIfInBounds_toArray, List.set_cons_zero, List.set_cons_succ]
  refine wpAnyH_take (oi := ⟨some 63, _, _, _, _, _⟩) (i := 3) (v := .agg M2) rfl (by kernel_rfl) (by kernel_rfl) (by kernel_rfl) (fun _ _ _ h => h) (y_load rtBd y2.heap.size M2 (fun u hu => hu) hM2.out.1 (.tmp 3) (by kernel_rfl) rfl (by go_simp)) hH ?_
  try simp only [Act.put, List.setIfInBounds_toArray, List.set_cons_zero, List.set_cons_succ]
  refine wpAnyH_ready (rs := [4]) (by kernel_rfl) (by simp) (AllReadyH.cons rfl (fun K hK => ?_) AllReadyH.nil)
  rw [if_pos (by rfl)]
  go_wp2_with (go_at_call 22; refine (start_any z7).mono ?_; rintro e z8 ⟨M9, rfl, H⟩; have N8 : Hid (BL z8 M2 sBd ∧ BL z8 M9 sBd ∧ Below w.heap.size w z8 ∧ Bx z8 y2.heap.size M2 34) := ⟨hD2.out.2.below H.out.2, H.out.1, hD2.out.1.trans (H.out.2.mono hD2.out.1.size), (H.out.2.block _ (heap_lt hH)).trans hH⟩; clear H; refine stopAt ?_)
  refine Stop.go ?_
  refine hK.out _ _ N8.out.2.2.2 (fun hH => ?_)
  clear hK K
  try simp only [Act.put, List.setIfInBounds_toArray, List.set_cons_zero, List.set_cons_succ]
  refine wpAnyH_ready (rs := [5]) (by kernel_rfl) (by simp) (AllReadyH.cons rfl (fun K hK => ?_) AllReadyH.nil)
  rw [if_pos (by rfl)]
  go_wp2_with (go_at_call 13; refine (hSm.out z8 M2 M9 N8.out.1 N8.out.2.1).mono ?_; rintro e z9 ⟨rfl, H⟩; have N9 : Hid (Below w.heap.size w z9 ∧ Bx z9 y2.heap.size M2 34) := ⟨N8.out.2.2.1.trans (H.mono N8.out.2.2.1.size), (H.block _ (heap_lt N8.out.2.2.2)).trans N8.out.2.2.2⟩; clear H; refine stopAt ?_)
  refine Stop.go ?_
  refine hK.out _ _ N9.out.2 (fun hH => ?_)
  clear hK K
  try simp only [Act.put, List.setIfInBounds_toArray, List.set_cons_zero, List.set_cons_succ]
  refine wpAnyH_take (oi := ⟨some 66, _, _, _, _, _⟩) (i := 6) (v := .bool true) rfl (by kernel_rfl) (by kernel_rfl) (by kernel_rfl) (fun _ _ _ h => h) (.inl ⟨by kernel_rfl, fun u hu => by go_simp⟩) hH ?_
  try simp only [Act.put, List.setIfInBounds_toArray, List.set_cons_zero, List.set_cons_succ]
  refine wpAnyH_take (oi := ⟨some 67, _, _, _, _, _⟩) (i := 7) (v := .bool true) rfl (by kernel_rfl) (by kernel_rfl) (by kernel_rfl) (fun _ _ _ h => h) (.inl ⟨by kernel_rfl, fun u hu => by go_simp⟩) hH ?_
  try simp only [Act.put, List.setIfInBounds_toArray, List.set_cons_zero, List.set_cons_succ]
  refine wpAnyH_take (oi := ⟨some 68, _, _, _, _, _⟩) (i := 8) (v := .int .i64 210) rfl (by kernel_rfl) (by kernel_rfl) (by kernel_rfl) (fun _ _ _ h => h) (.inl ⟨by kernel_rfl, fun u hu => by go_simp⟩) hH ?_
  try simp only [Act.put, List.setIfInBounds_toArray, List.set_cons_zero, List.set_cons_succ]
  refine wpAnyH_take (oi := ⟨some 69, _, _, _, _, _⟩) (i := 9) (v := .bool true) rfl (by kernel_rfl) (by kernel_rfl) (by kernel_rfl) (fun _ _ _ h => h) (.inl ⟨by kernel_rfl, fun u hu => by go_simp⟩) hH ?_
  try simp only [Act.put, List.setIfInBounds_toArray, List.set_cons_zero, List.set_cons_succ]
  refine wpAnyH_take (oi := ⟨some 70, _, _, _, _, _⟩) (i := 10) (v := .bool true) rfl (by kernel_rfl) (by kernel_rfl) (by kernel_rfl) (fun _ _ _ h => h) (.inl ⟨by kernel_rfl, fun u hu => by go_simp⟩) hH ?_
  try simp only [Act.put, List.setIfInBounds_toArray, List.set_cons_zero, List.set_cons_succ]
  refine wpAnyH_take (oi := ⟨some 0, _, _, _, _, _⟩) (i := 11) (v := .bool true) rfl (by kernel_rfl) (by kernel_rfl) (by kernel_rfl) (fun _ _ _ h => h) (.inl ⟨by kernel_rfl, fun u hu => by go_simp⟩) hH ?_
  try simp only [Act.put, List.setIfInBounds_toArray, List.set_cons_zero]
  refine wpAnyH_done (by kernel_rfl) ?_ _
  clear hH
  go_wp2
  go_ret
  exact ⟨rfl, N9.out.1⟩
end Go.Proofs.YtehnhjdjjalifaaGreatDoor
