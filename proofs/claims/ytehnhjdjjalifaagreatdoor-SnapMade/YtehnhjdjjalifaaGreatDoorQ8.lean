/- All rows. -/
import Derived.Test.YtehnhjdjjalifaaGreatDoorQ7
namespace Go.Proofs.YtehnhjdjjalifaaGreatDoor
open Go Go.RowKit Go.Shelf
set_option linter.unusedVariables false
set_option maxHeartbeats 4000000
set_option maxRecDepth 20000

theorem rows_any (w : World) : Calls Tryz.prog 16 #[] w fun e w' => ∃ v l, e = .returned v ∧ Hid (RA w v l [] w' ∧ l.length = 37) := by
  go_enter Tryz.func16, Tryz.ntmps16
  go_wp2_with (first
    | (go_at_call 32; refine (mk_o w).mono ?_; rintro e y0 ⟨x, rfl, H0⟩)
    | (refine at_bsR1 x (.tmp 3) rfl rfl rfl ?_))
  have K0 : Hid (RA w (.slice (some ⟨y0.heap.size, 0, none⟩) 1 1) [x] [] (y0.alloc (.cells (c3 x).toArray 55)) ∧ [x].length = 1) := by
    refine ⟨⟨own_row (l := [x]) kRow.len (one_bxL y0 (c3 x).toArray 55) H0.out.2.size (show 1 ≤ maxLen by decide), H0.out.2.trans ((below1 y0 _).mono H0.out.2.size), fun i z hi => ?_, (show 1 ≤ 37 by decide)⟩, rfl⟩
    have : i = 0 := by
      have := (List.getElem?_eq_some_iff.1 hi).1
      simp at this
      omega
    subst this
    cases hi
    exact (RwO.keep H0.out.1 (KpT.of_below (below1 y0 _)))
  clear H0
  go_loopw [1, 5] (fun vv tv wz => ∃ (k : Nat) (v : Value) (l : List Rv) (y : World), y = wz ∧ k ≤ 16 ∧ vv = v ∧ tv = .int .i64 (k : Int) ∧ Hid (RA w v l [] y ∧ l.length = k + 1)) (fun _ tv _ => (16 - intOf tv).toNat)
  case atStart => exact ⟨0, _, [x], _, rfl, by decide, rfl, rfl, K0⟩
  case round =>
    obtain ⟨k, v, l, y, rfl, hk, hv, rfl, K⟩ := hrel
    replace hv := hv.symm
    subst hv
    clear K0
    by_cases hlt : k < 16
    · have hki : (k : Int) < 16 := by omega
      have hlt' : Hid (k < 16) := hlt
      obtain ⟨sv, cv, hvj, _⟩ := K.out.1.own.open kRow.len
      have hll : Hid (l.length = k + 1) := K.out.2
      rw [hll.out] at hvj
      obtain ⟨nl, hnl⟩ : ∃ z, k + 1 = z := ⟨_, rfl⟩
      rw [hnl] at hvj
      have hnl' : Hid (k + 1 = nl) := hnl
      subst hvj
      clear hk hlt hnl
      go_wp2_with (first
        | ((with_reducible refine gen_world (y.alloc (.cells #[.int .i64 (k : Int)] 3)) (fun z => Bx z y.heap.size #[.int .i64 (k : Int)] 3 ∧ Below y.heap.size y z) ?_ ?_); exact ⟨one_bxL _ _ _, below1 y _⟩; intro y1 K1)
        | (go_at_call 33; refine (mk_h y1 34 35 #[.pointer (some ⟨y.heap.size, 0, none⟩)]).mono ?_; rintro e y2 ⟨xk, rfl, H2⟩; have K2 : Hid (RwReg k xk y2 ∧ Below y.heap.size y y2) := ⟨⟨y.heap.size, H2.out.1, (H2.out.2.block _ (heap_lt K1.out.1)).trans K1.out.1⟩, K1.out.2.trans (H2.out.2.mono K1.out.2.size)⟩; clear H2)
        | (refine at_bsR1 xk (.tmp 11) rfl rfl rfl ?_)
        | (at_builtin; refine at_appL kRow rfl (.tmp 8) (.tmp 12) rfl w.heap.size (.slice sv nl cv) l rfl ((K.out.1.own.below K2.out.2).alloc _) y2.heap.size xk rfl ?_ ?_ ?_ ?_; (exact one_bxL y2 _ _); (rw [hll.out]; have := hlt'.out; omega); (have h1 := K.out.1.low.size; have h2 := K2.out.2.size; simp [World.size_alloc]; omega); intro v3 y3 A; have K3 : Hid (RA w v3 (l ++ [xk]) [] y3 ∧ (l ++ [xk]).length = k + 1 + 1) := ⟨K.out.1.app1 K2.out.2 (by rw [hll.out]; exact RwK.reg k hlt'.out xk y2 K2.out.1) (by rw [hll.out]; have := hlt'.out; omega) A.out, by rw [List.length_append, hll.out]; rfl⟩; clear A))
      go_roundw
      case rel => exact ⟨k + 1, v3, l ++ [xk], y3, rfl, hlt'.out, rfl, by simp, K3⟩
      case measure => have := hlt'.out; simp [intOf]; omega
    · obtain rfl : k = 16 := by omega
      obtain ⟨sv, cv, hvj, _⟩ := K.out.1.own.open kRow.len
      have hll : Hid (l.length = 17) := K.out.2
      rw [hll.out] at hvj
      subst hvj
      have M0 : Hid (RA w (.slice sv 17 cv) l [] y) := K.out.1
      clear hk hlt K
      go_wp2_with (first
        | (at_builtin; (with_reducible refine at_appNL kRow ?_ (.tmp 15) (.tmp 37) ?_ w.heap.size (.slice sv 17 cv) l ?_ ?_ y20.heap.size 0 20 20 [x0, x1, x2, x3, x4, x5, x6, x7, x8, x9, x10, x11, x12, x13, x14, x15, x16, x17, x18, x19] ?_ ?_ ?_ ?_ ?_ ?_ ?_); rfl; rfl; rfl; exact (M20.out.own.below (below1 y20 _)); rfl; rfl; exact (lies_new kRow.len y20 55 [x0, x1, x2, x3, x4, x5, x6, x7, x8, x9, x10, x11, x12, x13, x14, x15, x16, x17, x18, x19]); exact (by decide); (rw [hll.out]; decide); exact (Nat.le_trans M20.out.low.size (below1 y20 _).size); intro v3 y3 A; have K3 : Hid (RA w v3 (l ++ [x0, x1, x2, x3, x4, x5, x6, x7, x8, x9, x10, x11, x12, x13, x14, x15, x16, x17, x18, x19]) [] y3 ∧ (l ++ [x0, x1, x2, x3, x4, x5, x6, x7, x8, x9, x10, x11, x12, x13, x14, x15, x16, x17, x18, x19]).length = 37) := ⟨M20.out.apps A.out, by rw [List.length_append, hll.out]; rfl⟩; clear A)
        | (refine at_bsR20 x0 x1 x2 x3 x4 x5 x6 x7 x8 x9 x10 x11 x12 x13 x14 x15 x16 x17 x18 x19 (.tmp 16) (.tmp 17) (.tmp 18) (.tmp 19) (.tmp 20) (.tmp 21) (.tmp 22) (.tmp 23) (.tmp 24) (.tmp 25) (.tmp 26) (.tmp 27) (.tmp 28) (.tmp 29) (.tmp 30) (.tmp 31) (.tmp 32) (.tmp 33) (.tmp 34) (.tmp 36) rfl rfl rfl rfl rfl rfl rfl rfl rfl rfl rfl rfl rfl rfl rfl rfl rfl rfl rfl rfl rfl rfl ?_)
        | (go_at_call 76; refine (mk_l z0 111 #[.pointer (some ⟨bs, 0, none⟩)] 81 82).mono ?_; rintro e y20 ⟨x19, rfl, H⟩; have M20 : Hid (RA w (.slice sv 17 cv) l [x0, x1, x2, x3, x4, x5, x6, x7, x8, x9, x10, x11, x12, x13, x14, x15, x16, x17, x18, x19] y20) := M19.out.more (N0.out.2.trans (H.out.2.mono N0.out.2.size)) (by rw [List.length_append, hll.out]; exact ⟨bs, H.out.1, (H.out.2.block _ (heap_lt N0.out.1)).trans N0.out.1⟩) (by rw [List.length_append, hll.out]; exact (by decide : 17 + 19 < 37)); clear H)
        | (go_at_call 80; refine (alw_mk y19 512).mono ?_; rintro e z0 ⟨rfl, H⟩; obtain ⟨bs, hbs⟩ : ∃ z, y19.heap.size = z := ⟨_, rfl⟩; rw [hbs] at H ⊢; have N0 : Hid (Bx z0 bs #[.int .i64 512] 3 ∧ Below y19.heap.size y19 z0) := ⟨H.out.1, by rw [hbs]; exact H.out.2⟩; clear H hbs)
        | (go_at_call 76; refine (mk_l y18 77 #[] 78 79).mono ?_; rintro e y19 ⟨x18, rfl, H⟩; have M19 : Hid (RA w (.slice sv 17 cv) l [x0, x1, x2, x3, x4, x5, x6, x7, x8, x9, x10, x11, x12, x13, x14, x15, x16, x17, x18] y19) := M18.out.more H.out.2 (by rw [List.length_append, hll.out]; exact H.out.1) (by rw [List.length_append, hll.out]; exact (by decide : 17 + 18 < 37)); clear H)
        | (go_at_call 33; refine (mk_h y17 74 75 #[]).mono ?_; rintro e y18 ⟨x17, rfl, H⟩; have M18 : Hid (RA w (.slice sv 17 cv) l [x0, x1, x2, x3, x4, x5, x6, x7, x8, x9, x10, x11, x12, x13, x14, x15, x16, x17] y18) := M17.out.more H.out.2 (by rw [List.length_append, hll.out]; exact H.out.1) (by rw [List.length_append, hll.out]; exact (by decide : 17 + 17 < 37)); clear H)
        | (go_at_call 71; refine (mk_q y16 72 73 #[]).mono ?_; rintro e y17 ⟨x16, rfl, H⟩; have M17 : Hid (RA w (.slice sv 17 cv) l [x0, x1, x2, x3, x4, x5, x6, x7, x8, x9, x10, x11, x12, x13, x14, x15, x16] y17) := M16.out.more H.out.2 (by rw [List.length_append, hll.out]; exact H.out.1) (by rw [List.length_append, hll.out]; exact (by decide : 17 + 16 < 37)); clear H)
        | (go_at_call 39; refine (mk_b y15 69 70 #[]).mono ?_; rintro e y16 ⟨x15, rfl, H⟩; have M16 : Hid (RA w (.slice sv 17 cv) l [x0, x1, x2, x3, x4, x5, x6, x7, x8, x9, x10, x11, x12, x13, x14, x15] y16) := M15.out.more H.out.2 (by rw [List.length_append, hll.out]; exact H.out.1) (by rw [List.length_append, hll.out]; exact (by decide : 17 + 15 < 37)); clear H)
        | (go_at_call 36; refine (mk_y y14 67 68 #[]).mono ?_; rintro e y15 ⟨x14, rfl, H⟩; have M15 : Hid (RA w (.slice sv 17 cv) l [x0, x1, x2, x3, x4, x5, x6, x7, x8, x9, x10, x11, x12, x13, x14] y15) := M14.out.more H.out.2 (by rw [List.length_append, hll.out]; exact H.out.1) (by rw [List.length_append, hll.out]; exact (by decide : 17 + 14 < 37)); clear H)
        | (go_at_call 36; refine (mk_y y13 65 66 #[]).mono ?_; rintro e y14 ⟨x13, rfl, H⟩; have M14 : Hid (RA w (.slice sv 17 cv) l [x0, x1, x2, x3, x4, x5, x6, x7, x8, x9, x10, x11, x12, x13] y14) := M13.out.more H.out.2 (by rw [List.length_append, hll.out]; exact H.out.1) (by rw [List.length_append, hll.out]; exact (by decide : 17 + 13 < 37)); clear H)
        | (go_at_call 39; refine (mk_b y12 63 64 #[]).mono ?_; rintro e y13 ⟨x12, rfl, H⟩; have M13 : Hid (RA w (.slice sv 17 cv) l [x0, x1, x2, x3, x4, x5, x6, x7, x8, x9, x10, x11, x12] y13) := M12.out.more H.out.2 (by rw [List.length_append, hll.out]; exact H.out.1) (by rw [List.length_append, hll.out]; exact (by decide : 17 + 12 < 37)); clear H)
        | (go_at_call 36; refine (mk_y y11 61 62 #[]).mono ?_; rintro e y12 ⟨x11, rfl, H⟩; have M12 : Hid (RA w (.slice sv 17 cv) l [x0, x1, x2, x3, x4, x5, x6, x7, x8, x9, x10, x11] y12) := M11.out.more H.out.2 (by rw [List.length_append, hll.out]; exact H.out.1) (by rw [List.length_append, hll.out]; exact (by decide : 17 + 11 < 37)); clear H)
        | (go_at_call 33; refine (mk_h y10 59 60 #[]).mono ?_; rintro e y11 ⟨x10, rfl, H⟩; have M11 : Hid (RA w (.slice sv 17 cv) l [x0, x1, x2, x3, x4, x5, x6, x7, x8, x9, x10] y11) := M10.out.more H.out.2 (by rw [List.length_append, hll.out]; exact H.out.1) (by rw [List.length_append, hll.out]; exact (by decide : 17 + 10 < 37)); clear H)
        | (go_at_call 56; refine (mk_p y9 57 58 #[]).mono ?_; rintro e y10 ⟨x9, rfl, H⟩; have M10 : Hid (RA w (.slice sv 17 cv) l [x0, x1, x2, x3, x4, x5, x6, x7, x8, x9] y10) := M9.out.more H.out.2 (by rw [List.length_append, hll.out]; exact H.out.1) (by rw [List.length_append, hll.out]; exact (by decide : 17 + 9 < 37)); clear H)
        | (go_at_call 36; refine (mk_y y8 54 55 #[]).mono ?_; rintro e y9 ⟨x8, rfl, H⟩; have M9 : Hid (RA w (.slice sv 17 cv) l [x0, x1, x2, x3, x4, x5, x6, x7, x8] y9) := M8.out.more H.out.2 (by rw [List.length_append, hll.out]; exact H.out.1) (by rw [List.length_append, hll.out]; exact (by decide : 17 + 8 < 37)); clear H)
        | (go_at_call 36; refine (mk_y y7 52 53 #[]).mono ?_; rintro e y8 ⟨x7, rfl, H⟩; have M8 : Hid (RA w (.slice sv 17 cv) l [x0, x1, x2, x3, x4, x5, x6, x7] y8) := M7.out.more H.out.2 (by rw [List.length_append, hll.out]; exact H.out.1) (by rw [List.length_append, hll.out]; exact (by decide : 17 + 7 < 37)); clear H)
        | (go_at_call 39; refine (mk_b y6 50 51 #[]).mono ?_; rintro e y7 ⟨x6, rfl, H⟩; have M7 : Hid (RA w (.slice sv 17 cv) l [x0, x1, x2, x3, x4, x5, x6] y7) := M6.out.more H.out.2 (by rw [List.length_append, hll.out]; exact H.out.1) (by rw [List.length_append, hll.out]; exact (by decide : 17 + 6 < 37)); clear H)
        | (go_at_call 39; refine (mk_b y5 48 49 #[]).mono ?_; rintro e y6 ⟨x5, rfl, H⟩; have M6 : Hid (RA w (.slice sv 17 cv) l [x0, x1, x2, x3, x4, x5] y6) := M5.out.more H.out.2 (by rw [List.length_append, hll.out]; exact H.out.1) (by rw [List.length_append, hll.out]; exact (by decide : 17 + 5 < 37)); clear H)
        | (go_at_call 36; refine (mk_y y4 46 47 #[]).mono ?_; rintro e y5 ⟨x4, rfl, H⟩; have M5 : Hid (RA w (.slice sv 17 cv) l [x0, x1, x2, x3, x4] y5) := M4.out.more H.out.2 (by rw [List.length_append, hll.out]; exact H.out.1) (by rw [List.length_append, hll.out]; exact (by decide : 17 + 4 < 37)); clear H)
        | (go_at_call 36; refine (mk_y y3 44 45 #[]).mono ?_; rintro e y4 ⟨x3, rfl, H⟩; have M4 : Hid (RA w (.slice sv 17 cv) l [x0, x1, x2, x3] y4) := M3.out.more H.out.2 (by rw [List.length_append, hll.out]; exact H.out.1) (by rw [List.length_append, hll.out]; exact (by decide : 17 + 3 < 37)); clear H)
        | (go_at_call 36; refine (mk_y y2 42 43 #[]).mono ?_; rintro e y3 ⟨x2, rfl, H⟩; have M3 : Hid (RA w (.slice sv 17 cv) l [x0, x1, x2] y3) := M2.out.more H.out.2 (by rw [List.length_append, hll.out]; exact H.out.1) (by rw [List.length_append, hll.out]; exact (by decide : 17 + 2 < 37)); clear H)
        | (go_at_call 39; refine (mk_b y1 40 41 #[]).mono ?_; rintro e y2 ⟨x1, rfl, H⟩; have M2 : Hid (RA w (.slice sv 17 cv) l [x0, x1] y2) := M1.out.more H.out.2 (by rw [List.length_append, hll.out]; exact H.out.1) (by rw [List.length_append, hll.out]; exact (by decide : 17 + 1 < 37)); clear H)
        | (go_at_call 36; refine (mk_y y 37 38 #[]).mono ?_; rintro e y1 ⟨x0, rfl, H⟩; have M1 : Hid (RA w (.slice sv 17 cv) l [x0] y1) := M0.out.more H.out.2 (by rw [List.length_append, hll.out]; exact H.out.1) (by rw [List.length_append, hll.out]; exact (by decide : 17 + 0 < 37)); clear H))
      go_ret
      exact ⟨v3, _, rfl, K3⟩
end Go.Proofs.YtehnhjdjjalifaaGreatDoor
