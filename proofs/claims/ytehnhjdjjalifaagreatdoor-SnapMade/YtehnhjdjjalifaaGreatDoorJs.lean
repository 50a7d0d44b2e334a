/- The statements' own first machine, and whether the program is awake. The statements' own first machine. Whether the program is awake. The laws: names; there and back. Rows of bytes side by side; a machine lent with a mark behind each of its lists, and taken back. The law: what is saved. -/
import Derived.Test.YtehnhjdjjalifaaGreatDoorQ14
import Derived.Laws.OwnMore
import Derived.Deep.RegionWith
namespace Go.Proofs.YtehnhjdjjalifaaGreatDoor
open Go Go.RowKit Go.Shelf
set_option linter.unusedVariables false
set_option maxHeartbeats 4000000
set_option maxRecDepth 20000

/-- A machine of 2048 bytes at power on. -/
def sBd : Bd := ⟨[0, 0, 0, 0, 0, 0, 0, 0, 0, 0, 0, 0, 0, 0, 0, 0], 0, false, 0, 0, 0, true, false, 0, 0, 5, 0, 0, false, 0, 0, true, List.replicate 2048 0, List.replicate 512 0, 0⟩
theorem sBd_ram : sBd.ram.length = 2048 := List.length_replicate
theorem sBd_rom : sBd.rom.length = 512 := List.length_replicate
theorem sBd_ok : sBd.Ok := ⟨rfl, fun v hv => by
  simp only [sBd, List.mem_cons, List.not_mem_nil, or_false, or_self] at hv
  subst hv
  decide, by decide⟩
theorem sBd_chk : chkB sBd = 0 := by
  unfold chkB
  rw [if_neg (by rw [sBd_ram]; decide), if_neg (by rw [sBd_rom]; decide)]
  decide
theorem sBd_len : (savB sBd).length = 2631 := by rw [sav_len sBd rfl, sBd_ram, sBd_rom]
theorem sBd_at : byteB (savB sBd) 0 = 86 ∧ byteB (savB sBd) 41 = 1 ∧ byteB (savB sBd) 45 = 5 ∧ byteB (savB sBd) 52 = 1 ∧ byteB (savB sBd) 62 = 8 := by
  rw [sav_eq]
  have k := fun k hk => byte_head sBd rfl (sBd.ram ++ (sBd.rom ++ putN (sumB (bodyB sBd)) 8)) k hk
  rw [k 0 (by decide), k 41 (by decide), k 45 (by decide), k 52 (by decide), k 62 (by decide)]
  have e : headB sBd = [86, 83, 80, 49] ++ (sBd.r.flatMap fun v => putN v 2) ++ [sBd.d, flB sBd.df, sBd.p, sBd.x, sBd.t, flB sBd.ie, flB sBd.q, sBd.op, sBd.b, sBd.ph] ++ putN sBd.ln.toNat 2 ++ [UInt8.ofNat sBd.cy.toNat, flB sBd.on, UInt8.ofNat sBd.gt.toNat, sBd.pd, flB sBd.lt] ++ putN sBd.cc 8 ++ putN 2048 2 := by unfold headB; rw [sBd_ram]
  rw [e]
  exact ⟨rfl, rfl, rfl, rfl, rfl⟩
theorem made_by (n : Nat) : ∃ M, M = (rowL cB (List.replicate n 0)).toArray ∧ ∀ v, (n : Int) ≤ 100000 → (Instr.makeSlice 31 (.int .i64 (n : Int)) (.int .i64 (n : Int))).run Tryz.prog v = .ok (.slice (some ⟨v.heap.size, 0, none⟩) n n) (v.alloc (.cells M 5)) := by
  obtain ⟨i, hi, e⟩ := Option.map_eq_some_iff.1 infoBy
  injection e with e1 e2
  injection e2 with e2 e3
  refine ⟨_, rfl, fun v hn => ?_⟩
  have := run_make (P := Tryz.prog) v 31 5 i _ Tryz.underlying31 hi e1 .i64 .i64 (n : Int) (n : Int) (by omega) (Int.le_refl _) (by rw [e3]; omega) (by omega)
  rw [e2, Int.toNat_natCast, Nat.mul_one] at this
  rw [this]
  congr 3
  apply Array.toList_inj.1
  rw [rowB_eq, List.map_replicate]
  exact toList_madeCells_one (.int .u8 0) n
end Go.Proofs.YtehnhjdjjalifaaGreatDoor

namespace Go.Proofs.YtehnhjdjjalifaaGreatDoor
open Go Go.RowKit Go.Shelf
set_option linter.unusedVariables false
set_option maxHeartbeats 4000000
set_option maxRecDepth 20000

theorem start_any (w : World) : Calls Tryz.prog 22 #[] w fun e w' => ∃ M, e = .returned (.agg M) ∧ Hid (BL w' M sBd ∧ Below w.heap.size w w') := by
  obtain ⟨M1, hM1, mk1⟩ := made_by 2048
  obtain ⟨M2, hM2, mk2⟩ := made_by 512
  have m1 := fun v => mk1 v (by decide)
  have m2 := fun v => mk2 v (by decide)
  simp only [Int.cast_ofNat_Int] at m1 m2
  clear mk1 mk2
  have hEnd : Hid (∀ (y : World) (g g' : Nat), Bx y g M1 5 → Bx y g' M2 5 → BL y (bCs sBd (.slice (some ⟨g, 0, none⟩) 2048 2048) (.slice (some ⟨g', 0, none⟩) 512 512)) sBd) := fun y g g' h1 h2 => by
    rw [hM1] at h1
    rw [hM2] at h2
    refine ⟨⟨some ⟨g, 0, none⟩, 2048, some ⟨g', 0, none⟩, 512, ?_, lies_bx h1, lies_bx h2⟩, sBd_ok, by decide, by decide, by decide⟩
    rw [sBd_ram, sBd_rom]
  clear hM1 hM2
  go_enter Tryz.func22, Tryz.ntmps22
  go_upto_region 1 with (fail)
  have K0 : Hid (Fm w [(w.heap.size, zBd, 34)] (w.alloc (.cells #[.int .u16 0, .int .u16 0, .int .u16 0, .int .u16 0, .int .u16 0, .int .u16 0, .int .u16 0, .int .u16 0, .int .u16 0, .int .u16 0, .int .u16 0, .int .u16 0, .int .u16 0, .int .u16 0, .int .u16 0, .int .u16 0, .int .u8 0, .bool false, .int .u8 0, .int .u8 0, .int .u8 0, .bool false, .bool false, .int .u8 0, .int .u8 0, .int .u8 0, .int .i64 0, .int .i64 0, .bool false, .int .i64 0, .int .u8 0, .bool false, .slice none 0 0, .slice none 0 0, .int .u64 0] 34))) := Fm.one w _ _
  generalize (w.alloc (.cells #[.int .u16 0, .int .u16 0, .int .u16 0, .int .u16 0, .int .u16 0, .int .u16 0, .int .u16 0, .int .u16 0, .int .u16 0, .int .u16 0, .int .u16 0, .int .u16 0, .int .u16 0, .int .u16 0, .int .u16 0, .int .u16 0, .int .u8 0, .bool false, .int .u8 0, .int .u8 0, .int .u8 0, .bool false, .bool false, .int .u8 0, .int .u8 0, .int .u8 0, .int .i64 0, .int .i64 0, .bool false, .int .i64 0, .int .u8 0, .bool false, .slice none 0 0, .slice none 0 0, .int .u64 0] 34)) = y0 at K0 ⊢
  have K1' : Hid (Fm w [(w.heap.size, zBd, 34)] y0.drew) := K0.out.below (below_drew (Below.refl _ _))
  refine wp_region_held_drew (S := fun _ => True) (by kernel_rfl) trivial (fun hH => ?_)
  obtain ⟨y1, hy1⟩ : ∃ z, y0.drew = z := ⟨_, rfl⟩
  rw [hy1] at K1' ⊢
  have K1 := K1'
  clear K1' hy1 K0
  refine wpAnyH_take (oi := ⟨some 1, _, _, _, _, _⟩) (i := 0) (v := .agg (cCs sBd)) rfl (by kernel_rfl) (by kernel_rfl) (by kernel_rfl) (fun _ _ _ h => h) (.inl ⟨by kernel_rfl, fun u hu => by go_simp; all_goals (first | rfl | kernel_rfl)⟩) trivial ?_
  try simp only [Act.put, List.setIfInBounds_toArray, List.set_cons_zero, List.set_cons_succ]
  refine wpAnyH_ready (rs := [1, 2]) (by kernel_rfl) (by simp) (AllReadyH.cons rfl (fun K hK => ?_) (AllReadyH.cons rfl (fun K hK => ?_) AllReadyH.nil))
  · rw [if_pos (by rfl)]
    have mk := m1 y1
    go_wp2
    refine hK.out _ _ trivial (fun hH => ?_)
    clear hK K mk
    try simp only [Act.put, List.setIfInBounds_toArray, List.set_cons_zero, List.set_cons_succ]
    have Q1 : Hid (Fm w [(w.heap.size, zBd, 34)] (y1.alloc (.cells M1 5)) ∧ Bx (y1.alloc (.cells M1 5)) y1.heap.size M1 5 ∧ w.heap.size < y1.heap.size) := ⟨K1.out.below (below1 y1 _), one_bxL _ _ _, heap_lt (K1.out.bx 0 _ _ _ rfl)⟩
    generalize y1.heap.size = ga at Q1 ⊢
    generalize (y1.alloc (.cells M1 5)) = z1 at Q1 ⊢
    refine wpAnyH_ready (rs := [2]) (by kernel_rfl) (by simp) (AllReadyH.cons rfl (fun K hK => ?_) AllReadyH.nil)
    rw [if_pos (by rfl)]
    have mk := m2 z1
    go_wp2
    refine hK.out _ _ trivial (fun hH => ?_)
    clear hK K mk
    try simp only [Act.put, List.setIfInBounds_toArray, List.set_cons_zero, List.set_cons_succ]
    have Q2 : Hid (Fm w [(w.heap.size, zBd, 34)] (z1.alloc (.cells M2 5)) ∧ Bx (z1.alloc (.cells M2 5)) ga M1 5 ∧ Bx (z1.alloc (.cells M2 5)) z1.heap.size M2 5 ∧ w.heap.size < ga ∧ w.heap.size < z1.heap.size) := ⟨Q1.out.1.below (below1 z1 _), ((below1 z1 (.cells M2 5)).block _ (heap_lt Q1.out.2.1)).trans Q1.out.2.1, one_bxL _ _ _, Q1.out.2.2, heap_lt (Q1.out.1.bx 0 _ _ _ rfl)⟩
    generalize z1.heap.size = gb at Q2 ⊢
    generalize (z1.alloc (.cells M2 5)) = z2 at Q2 ⊢
    refine wpAnyH_take (oi := ⟨some 4, _, _, _, _, _⟩) (i := 3) (v := .agg (bCs sBd (.slice (some ⟨ga, 0, none⟩) 2048 2048) (.slice (some ⟨gb, 0, none⟩) 512 512))) rfl (by kernel_rfl) (by kernel_rfl) (by kernel_rfl) (fun _ _ _ h => h) (.inl ⟨by kernel_rfl, fun u hu => by go_simp; all_goals (first | rfl | kernel_rfl)⟩) trivial ?_
    try simp only [Act.put, List.setIfInBounds_toArray, List.set_cons_zero, List.set_cons_succ]
    refine wpAnyH_ready (rs := [4]) (by kernel_rfl) (by simp) (AllReadyH.cons rfl (fun K hK => ?_) AllReadyH.nil)
    rw [if_pos (by rfl)]
    refine wp_st rtBd w.heap.size zBd (bCs sBd (.slice (some ⟨ga, 0, none⟩) 2048 2048) (.slice (some ⟨gb, 0, none⟩) 512 512)) (Q2.out.1.bx 0 _ _ _ rfl) rfl rfl (bCs_one _ _ _ _ _ _ _) _ _ rfl rfl rfl ?_
    intro y9 h9
    have K9 : Hid (Bx y9 w.heap.size (bCs sBd (.slice (some ⟨ga, 0, none⟩) 2048 2048) (.slice (some ⟨gb, 0, none⟩) 512 512)) 34 ∧ Below w.heap.size w y9 ∧ BL y9 (bCs sBd (.slice (some ⟨ga, 0, none⟩) 2048 2048) (.slice (some ⟨gb, 0, none⟩) 512 512)) sBd) := ⟨h9.out.1, Q2.out.1.low.trans (h9.out.2.1 _ (Nat.le_refl _)), hEnd.out y9 _ _ ((h9.out.2.2 _ (Nat.ne_of_gt Q2.out.2.2.2.1)).trans Q2.out.2.1) ((h9.out.2.2 _ (Nat.ne_of_gt Q2.out.2.2.2.2)).trans Q2.out.2.2.1)⟩
    clear h9
    refine hK.out _ _ trivial (fun _ => ?_)
    clear hK K
    try simp only [Act.put]
    refine wpAnyH_done (by kernel_rfl) ?_ _
    go_wp2
    exact ret_row rtBd rfl rfl K9.out.1 rfl rfl ⟨_, rfl, K9.out.2.2, K9.out.2.1⟩
  · rw [if_pos (by rfl)]
    have mk := m2 y1
    go_wp2
    refine hK.out _ _ trivial (fun hH => ?_)
    clear hK K mk
    try simp only [Act.put, List.setIfInBounds_toArray, List.set_cons_zero, List.set_cons_succ]
    have Q1 : Hid (Fm w [(w.heap.size, zBd, 34)] (y1.alloc (.cells M2 5)) ∧ Bx (y1.alloc (.cells M2 5)) y1.heap.size M2 5 ∧ w.heap.size < y1.heap.size) := ⟨K1.out.below (below1 y1 _), one_bxL _ _ _, heap_lt (K1.out.bx 0 _ _ _ rfl)⟩
    generalize y1.heap.size = ga at Q1 ⊢
    generalize (y1.alloc (.cells M2 5)) = z1 at Q1 ⊢
    refine wpAnyH_ready (rs := [1]) (by kernel_rfl) (by simp) (AllReadyH.cons rfl (fun K hK => ?_) AllReadyH.nil)
    rw [if_pos (by rfl)]
    have mk := m1 z1
    go_wp2
    refine hK.out _ _ trivial (fun hH => ?_)
    clear hK K mk
    try simp only [Act.put, List.setIfInBounds_toArray, List.set_cons_zero, List.set_cons_succ]
    have Q2 : Hid (Fm w [(w.heap.size, zBd, 34)] (z1.alloc (.cells M1 5)) ∧ Bx (z1.alloc (.cells M1 5)) ga M2 5 ∧ Bx (z1.alloc (.cells M1 5)) z1.heap.size M1 5 ∧ w.heap.size < ga ∧ w.heap.size < z1.heap.size) := ⟨Q1.out.1.below (below1 z1 _), ((below1 z1 (.cells M1 5)).block _ (heap_lt Q1.out.2.1)).trans Q1.out.2.1, one_bxL _ _ _, Q1.out.2.2, heap_lt (Q1.out.1.bx 0 _ _ _ rfl)⟩
    generalize z1.heap.size = gb at Q2 ⊢
    generalize (z1.alloc (.cells M1 5)) = z2 at Q2 ⊢
    refine wpAnyH_take (oi := ⟨some 4, _, _, _, _, _⟩) (i := 3) (v := .agg (bCs sBd (.slice (some ⟨gb, 0, none⟩) 2048 2048) (.slice (some ⟨ga, 0, none⟩) 512 512))) rfl (by kernel_rfl) (by kernel_rfl) (by kernel_rfl) (fun _ _ _ h => h) (.inl ⟨by kernel_rfl, fun u hu => by go_simp; all_goals (first | rfl | kernel_rfl)⟩) trivial ?_
    try simp only [Act.put, List.setIfInBounds_toArray, List.set_cons_zero, List.set_cons_succ]
    refine wpAnyH_ready (rs := [4]) (by kernel_rfl) (by simp) (AllReadyH.cons rfl (fun K hK => ?_) AllReadyH.nil)
    rw [if_pos (by rfl)]
    refine wp_st rtBd w.heap.size zBd (bCs sBd (.slice (some ⟨gb, 0, none⟩) 2048 2048) (.slice (some ⟨ga, 0, none⟩) 512 512)) (Q2.out.1.bx 0 _ _ _ rfl) rfl rfl (bCs_one _ _ _ _ _ _ _) _ _ rfl rfl rfl ?_
    intro y9 h9
    have K9 : Hid (Bx y9 w.heap.size (bCs sBd (.slice (some ⟨gb, 0, none⟩) 2048 2048) (.slice (some ⟨ga, 0, none⟩) 512 512)) 34 ∧ Below w.heap.size w y9 ∧ BL y9 (bCs sBd (.slice (some ⟨gb, 0, none⟩) 2048 2048) (.slice (some ⟨ga, 0, none⟩) 512 512)) sBd) := ⟨h9.out.1, Q2.out.1.low.trans (h9.out.2.1 _ (Nat.le_refl _)), hEnd.out y9 _ _ ((h9.out.2.2 _ (Nat.ne_of_gt Q2.out.2.2.2.2)).trans Q2.out.2.2.1) ((h9.out.2.2 _ (Nat.ne_of_gt Q2.out.2.2.2.1)).trans Q2.out.2.1)⟩
    clear h9
    refine hK.out _ _ trivial (fun _ => ?_)
    clear hK K
    try simp only [Act.put]
    refine wpAnyH_done (by kernel_rfl) ?_ _
    go_wp2
    exact ret_row rtBd rfl rfl K9.out.1 rfl rfl ⟨_, rfl, K9.out.2.2, K9.out.2.1⟩
end Go.Proofs.YtehnhjdjjalifaaGreatDoor

namespace Go.Proofs.YtehnhjdjjalifaaGreatDoor
open Go Go.RowKit Go.Shelf
set_option linter.unusedVariables false
set_option maxHeartbeats 4000000
set_option maxRecDepth 20000

theorem zLd (w : World) {l : List UInt8} {e : Ending} {w' : World} (h : LdE w l e w') : ∃ M E, e = .returned (.tuple #[.agg M, .int .i64 E]) ∧ Hid (Below w.heap.size w w') ∧ ((formB l = true ∧ sumOk l = true ∧ chkB (bdOf l) = 0 ∧ E = 0 ∧ Hid (MOk w l M w')) ∨ (¬ (formB l = true ∧ sumOk l = true ∧ chkB (bdOf l) = 0) ∧ (E = 210 ∨ E = 211 ∨ E = 212) ∧ (formB l = false → E = 210) ∧ M = zBd)) := by
  rcases h with ⟨h1, rfl, h⟩ | ⟨h1, h2, rfl, h⟩ | ⟨h1, h2, h3, rfl, h⟩ | ⟨h1, h2, h3, M, rfl, h⟩
  · exact ⟨zBd, 210, rfl, h, .inr ⟨fun k => (by rw [h1] at k; cases k.1), .inl rfl, fun _ => rfl, rfl⟩⟩
  · exact ⟨zBd, 211, rfl, h, .inr ⟨fun k => (by rw [h2] at k; cases k.2.1), .inr (.inl rfl), fun k => (by rw [h1] at k; cases k), rfl⟩⟩
  · exact ⟨zBd, 212, rfl, h, .inr ⟨fun k => h3 k.2.2, .inr (.inr rfl), fun k => (by rw [h1] at k; cases k), rfl⟩⟩
  · exact ⟨M, 0, rfl, h.out.1, .inl ⟨h1, h2, h3, rfl, h.out.2⟩⟩
theorem BL.facts {w : World} {C : Array Value} {s : Bd} (h : BL w C s) : C.size = 35 ∧ C.all (·.oneCell') = true := by
  obtain ⟨⟨sR, cR, sO, cO, rfl, _⟩, _⟩ := h
  exact ⟨rfl, bCs_one _ _ _ _ _ _ _⟩
theorem byte_lb {w : World} {g o : Nat} {l : List UInt8} (h : LB w (some ⟨g, o, none⟩) l) (k : Nat) (hk : k < l.length) (c : Nat) (hc : (byteB l k).toNat = c) : w.cell? ⟨g, o + k, none⟩ = some (.int .u8 (c : Int)) := by
  rw [← hc]
  exact lb_at h k hk
theorem awake_any (w : World) (tb : Hid (Tbs w)) : Calls Tryz.prog 10 #[] w fun e w' => e = .returned (.bool true) ∧ Below w.heap.size w w' := by
  have hS : Hid (∀ y M, Below w.heap.size w y → BL y M sBd → Calls Tryz.prog 7 #[.agg M] y fun e w' => ∃ v, e = .returned (.tuple #[v, .int .i64 0]) ∧ Hid (KL 5 1 cB y v (savB sBd) w')) := fun y M hy hM => (psave_any y (tb.out.below hy) M sBd hM).mono fun e w' h => by
    rcases h with ⟨_, h⟩ | ⟨h, _⟩
    · exact h
    · exact absurd sBd_chk h
  obtain ⟨lf1, lf2, lf3⟩ := load_sav sBd (chk_fit sBd_ok sBd_chk).1
  have sLen := sBd_len
  obtain ⟨P, hP⟩ : ∃ z, savB sBd = z := ⟨_, rfl⟩
  have hb := sBd_at
  rw [hP] at hS lf1 lf2 lf3 sLen hb
  have hcut : formB (P.take 2630) = false := cut_off P lf1 2630 (by rw [sLen]; decide)
  have hL1 : Hid (∀ y sp cap, Below w.heap.size w y → LB y sp P → 2631 ≤ cap → Calls Tryz.prog 11 #[.slice sp 2631 cap] y fun e w' => ∃ M, e = .returned (.tuple #[.agg M, .int .i64 0]) ∧ Hid (Below y.heap.size y w' ∧ BL w' M sBd)) := fun y sp cap hy hl hc => by
    have := pload_any y (tb.out.below hy) sp cap P hl (by rw [sLen]; decide) (by rw [sLen]; exact hc)
    rw [sLen] at this
    refine this.mono fun e w' h => ?_
    obtain ⟨M, E, rfl, hb, h⟩ := zLd y h
    rcases h with ⟨_, _, _, rfl, hM⟩ | ⟨h, _⟩
    · refine ⟨M, rfl, hb.out, ?_⟩
      have := hM.out.bl
      rw [lf3] at this
      exact this
    · exact absurd ⟨lf1, lf2, by rw [lf3]; exact sBd_chk⟩ h
  have hL2 : Hid (∀ y sp cap, Below w.heap.size w y → LB y sp (P.take 2630) → 2630 ≤ cap → Calls Tryz.prog 11 #[.slice sp 2630 cap] y fun e w' => e = .returned (.tuple #[.agg zBd, .int .i64 210]) ∧ Hid (Below y.heap.size y w')) := fun y sp cap hy hl hc => by
    have e : (P.take 2630).length = 2630 := by rw [List.length_take, sLen]; decide
    have := pload_any y (tb.out.below hy) sp cap (P.take 2630) hl (by rw [e]; decide) (by rw [e]; exact hc)
    rw [e] at this
    refine this.mono fun e w' h => ?_
    obtain ⟨M, E, rfl, hb, k⟩ := zLd y h
    rcases k with ⟨k, _⟩ | ⟨_, _, k, k2⟩
    · rw [hcut] at k; cases k
    · rw [k hcut, k2]; exact ⟨rfl, hb⟩
  have hSm : Hid (∀ y A B, BL y A sBd → BL y B sBd → Calls Tryz.prog 13 #[.agg A, .agg B] y fun e w' => e = .returned (.bool true) ∧ Below y.heap.size y w') := fun y A B h1 h2 => same08_true y A B sBd h1 h2 (by rw [sBd_ram]; decide) (by rw [sBd_rom]; decide)
  have hBy : Hid (P.length = 2631 ∧ (byteB P 0).toNat = 86 ∧ (byteB P 41).toNat = 1 ∧ (byteB P 45).toNat = 5 ∧ (byteB P 52).toNat = 1 ∧ (byteB P 62).toNat = 8) := by
    obtain ⟨b1, b2, b3, b4, b5⟩ := hb
    rw [b1, b2, b3, b4, b5]
    exact ⟨sLen, rfl, rfl, rfl, rfl, rfl⟩
  clear lf1 lf2 lf3 sLen hP hb hcut
  go_enter Tryz.func10, Tryz.ntmps10
  go_wp2_with (first
    | (go_at_call 22; refine (start_any w).mono ?_; rintro e y0 ⟨M0, rfl, H⟩; have K0 : Hid (BL y0 M0 sBd ∧ Below w.heap.size w y0) := H; clear H)
    | (go_at_call 7; refine (hS.out y0 M0 K0.out.2 K0.out.1).mono ?_; rintro e y1 ⟨v, rfl, H⟩; obtain ⟨s8, c8, hv8, hb8, hA8, _, hc8⟩ := H.out.own.open kByte.len; rw [hBy.out.1] at hv8 hc8; subst hv8; obtain ⟨g8, o8, hs8⟩ := lb_some hb8 (by rw [hBy.out.1]; decide); subst hs8; have K1 : Hid (Below w.heap.size w y1 ∧ LB y1 (some ⟨g8, o8, none⟩) P ∧ 2631 ≤ c8) := ⟨K0.out.2.trans (H.out.low.mono K0.out.2.size), hb8, hc8⟩; have p0 := byte_lb hb8 0 (by rw [hBy.out.1]; decide) 86 hBy.out.2.1; have p1 := byte_lb hb8 41 (by rw [hBy.out.1]; decide) 1 hBy.out.2.2.1; have p2 := byte_lb hb8 45 (by rw [hBy.out.1]; decide) 5 hBy.out.2.2.2.1; have p3 := byte_lb hb8 52 (by rw [hBy.out.1]; decide) 1 hBy.out.2.2.2.2.1; have p4 := byte_lb hb8 62 (by rw [hBy.out.1]; decide) 8 hBy.out.2.2.2.2.2; have i0 := fun u => idxB .i64 g8 o8 2631 c8 0 u (by decide); have i1 := fun u => idxB .i64 g8 o8 2631 c8 41 u (by decide); have i2 := fun u => idxB .i64 g8 o8 2631 c8 45 u (by decide); have i3 := fun u => idxB .i64 g8 o8 2631 c8 52 u (by decide); have i4 := fun u => idxB .i64 g8 o8 2631 c8 62 u (by decide); simp only [Nat.add_zero, Int.cast_ofNat_Int] at p0 p1 p2 p3 p4 i0 i1 i2 i3 i4; clear H hb8 hA8 hc8)
    | (go_at_call 11; refine (hL2.out y4 sp1 c8 K4.out.2.1 hlb1'.out (Nat.le_trans (by decide) K1.out.2.2)).mono ?_; rintro e y5 ⟨rfl, H⟩; have K5 : Hid (Bx y5 y2.heap.size M2 34 ∧ Below w.heap.size w y5 ∧ BL y5 M2 sBd) := ⟨(H.out.block _ (heap_lt K4.out.1)).trans K4.out.1, K4.out.2.1.trans (H.out.mono K4.out.2.1.size), K4.out.2.2.1.below H.out⟩; clear H)
    | (go_at_call 11; refine (hL1.out y1 (some ⟨g8, o8, none⟩) c8 K1.out.1 K1.out.2.1 K1.out.2.2).mono ?_; rintro e y2 ⟨M2, rfl, H⟩; have hM2 : Hid (M2.size = 35 ∧ M2.all (·.oneCell') = true) := BL.facts H.out.2; have K2 : Hid (Below w.heap.size w y2 ∧ BL y2 M2 sBd ∧ LB y2 (some ⟨g8, o8, none⟩) P) := ⟨K1.out.1.trans (H.out.1.mono K1.out.1.size), H.out.2, K1.out.2.1.below H.out.1⟩; clear H p0 p1 p2 p3 p4 i0 i1 i2 i3 i4)
    | ((with_reducible refine gen_world (y2.alloc (.cells #[.int .u16 0, .int .u16 0, .int .u16 0, .int .u16 0, .int .u16 0, .int .u16 0, .int .u16 0, .int .u16 0, .int .u16 0, .int .u16 0, .int .u16 0, .int .u16 0, .int .u16 0, .int .u16 0, .int .u16 0, .int .u16 0, .int .u8 0, .bool false, .int .u8 0, .int .u8 0, .int .u8 0, .bool false, .bool false, .int .u8 0, .int .u8 0, .int .u8 0, .int .i64 0, .int .i64 0, .bool false, .int .i64 0, .int .u8 0, .bool false, .slice none 0 0, .slice none 0 0, .int .u64 0] 34)) (fun z => Bx z y2.heap.size zBd 34 ∧ Below y2.heap.size y2 z) ?_ ?_); exact ⟨one_bxL _ _ _, below1 y2 _⟩; intro y3 K3)
    | ((with_reducible refine at_st rtBd y2.heap.size zBd M2 ?_ ?_ ?_ ?_ (.tmp 3) (.tmp 52) ?_ ?_ ?_ ?_ ?_); exact K3.out.1; rfl; exact hM2.out.1; exact hM2.out.2; rfl; rfl; rfl; rfl; intro y4 h4; have K4 : Hid (Bx y4 y2.heap.size M2 34 ∧ Below w.heap.size w y4 ∧ BL y4 M2 sBd ∧ LB y4 (some ⟨g8, o8, none⟩) P) := (have b4 : Below y2.heap.size y2 y4 := K3.out.2.trans (h4.out.2.1 _ (Nat.le_refl _)); ⟨h4.out.1, K2.out.1.trans (b4.mono K2.out.1.size), K2.out.2.1.below b4, K2.out.2.2.below b4⟩); clear h4 K3; obtain ⟨sp1, hsl1, hlb1, _⟩ := slTakeB (some ⟨g8, o8, none⟩) 2631 c8 2630 (by decide) K1.out.2.2; simp only [Int.cast_ofNat_Int] at hsl1; have hlb1' : Hid (LB y4 sp1 (P.take 2630)) := hlb1 y4 P K4.out.2.2.2; clear hlb1)
    | ((with_reducible refine gen_world (y5.alloc (.cells #[.int .u16 0, .int .u16 0, .int .u16 0, .int .u16 0, .int .u16 0, .int .u16 0, .int .u16 0, .int .u16 0, .int .u16 0, .int .u16 0, .int .u16 0, .int .u16 0, .int .u16 0, .int .u16 0, .int .u16 0, .int .u16 0, .int .u8 0, .bool false, .int .u8 0, .int .u8 0, .int .u8 0, .bool false, .bool false, .int .u8 0, .int .u8 0, .int .u8 0, .int .i64 0, .int .i64 0, .bool false, .int .i64 0, .int .u8 0, .bool false, .slice none 0 0, .slice none 0 0, .int .u64 0] 34)) (fun z => Bx z y5.heap.size zBd 34 ∧ Below y5.heap.size y5 z) ?_ ?_); exact ⟨one_bxL _ _ _, below1 y5 _⟩; intro y6 K6)
    | ((with_reducible refine at_st rtBd y5.heap.size zBd zBd ?_ ?_ ?_ ?_ (.tmp 5) (.tmp 58) ?_ ?_ ?_ ?_ ?_); exact K6.out.1; rfl; rfl; exact zBd_one; rfl; rfl; rfl; rfl; intro y7 h7; have K7 : Hid (Bx y7 y2.heap.size M2 34 ∧ Below w.heap.size w y7 ∧ BL y7 M2 sBd) := (have b4 : Below y5.heap.size y5 y7 := K6.out.2.trans (h7.out.2.1 _ (Nat.le_refl _)); ⟨(b4.block _ (heap_lt K5.out.1)).trans K5.out.1, K5.out.2.1.trans (b4.mono K5.out.2.1.size), K5.out.2.2.below b4⟩); clear h7 K6))
  have hD : Hid (Bx y7.drew y2.heap.size M2 34) := K7.out.1
  have hD2 : Hid (Below w.heap.size w y7.drew ∧ BL y7.drew M2 sBd) := ⟨below_drew K7.out.2.1, K7.out.2.2.below (below_drew (Below.refl _ _))⟩
  refine wp_region_held_drew (S := fun z => Bx z y2.heap.size M2 34) (by kernel_rfl) hD.out (fun hH => ?_)
  generalize y7.drew = z7 at hH hD2 ⊢
  clear hD
  refine wpAnyH_take (oi := ⟨some 60, _, _, _, _, _⟩) (i := 0) (v := .int .i64 0) rfl (by kernel_rfl) (by kernel_rfl) (by kernel_rfl) (fun _ _ _ h => h) (.inl ⟨by kernel_rfl, fun u hu => by go_simp⟩) hH ?_
  try simp only [Act.put, List.setIfInBounds_toArray, List.set_cons_zero, List.set_cons_succ]
  refine wpAnyH_take (oi := ⟨some 61, _, _, _, _, _⟩) (i := 1) (v := .bool true) rfl (by kernel_rfl) (by kernel_rfl) (by kernel_rfl) (fun _ _ _ h => h) (.inl ⟨by kernel_rfl, fun u hu => by go_simp⟩) hH ?_
  try simp only [Act.put, List.setIfInBounds_toArray, List.set_cons_zero, List.set_cons_succ]
  refine wpAnyH_take (oi := ⟨some 62, _, _, _, _, _⟩) (i := 2) (v := .bool true) rfl (by kernel_rfl) (by kernel_rfl) (by kernel_rfl) (fun _ _ _ h => h) (.inl ⟨by kernel_rfl, fun u hu => by go_simp⟩) hH ?_
  try simp only [Act.put, List.setIfInBounds_toArray, List.set_cons_zero, List.set_cons_succ]
  refine wpAnyH_take (oi := ⟨some 63, _, _, _, _, _⟩) (i := 3) (v := .agg M2) rfl (by kernel_rfl) (by kernel_rfl) (by kernel_rfl) (fun _ _ _ h => h) (y_load rtBd y2.heap.size M2 (fun u hu => hu) hM2.out.1 (.tmp 3) (by kernel_rfl) rfl (by go_simp)) hH ?_
  try simp only [Act.put, List.setIfInBounds_toArray, List.set_cons_zero, List.set_cons_succ]
  refine wpAnyH_ready (rs := [4]) (by kernel_rfl) (by simp) (AllReadyH.cons rfl (fun K hK => ?_) AllReadyH.nil)
  rw [if_pos (by rfl)]
  go_wp2_with (go_at_call 22; refine (start_any z7).mono ?_; rintro e z8 ⟨M9, rfl, H⟩; have N8 : Hid (BL z8 M2 sBd ∧ BL z8 M9 sBd ∧ Below w.heap.size w z8 ∧ Bx z8 y2.heap.size M2 34) := ⟨hD2.out.2.below H.out.2, H.out.1, hD2.out.1.trans (H.out.2.mono hD2.out.1.size), (H.out.2.block _ (heap_lt hH)).trans hH⟩; clear H; refine stopAt ?_)
  refine Stop.go ?_
  refine hK.out _ _ N8.out.2.2.2 (fun hH => ?_)
  clear hK K
  try simp only [Act.put, List.setIfInBounds_toArray, List.set_cons_zero, List.set_cons_succ]
  refine wpAnyH_ready (rs := [5]) (by kernel_rfl) (by simp) (AllReadyH.cons rfl (fun K hK => ?_) AllReadyH.nil)
  rw [if_pos (by rfl)]
  go_wp2_with (go_at_call 13; refine (hSm.out z8 M2 M9 N8.out.1 N8.out.2.1).mono ?_; rintro e z9 ⟨rfl, H⟩; have N9 : Hid (Below w.heap.size w z9 ∧ Bx z9 y2.heap.size M2 34) := ⟨N8.out.2.2.1.trans (H.mono N8.out.2.2.1.size), (H.block _ (heap_lt N8.out.2.2.2)).trans N8.out.2.2.2⟩; clear H; refine stopAt ?_)
  refine Stop.go ?_
  refine hK.out _ _ N9.out.2 (fun hH => ?_)
  clear hK K
  try simp only [Act.put, List.setIfInBounds_toArray, List.set_cons_zero, List.set_cons_succ]
  refine wpAnyH_take (oi := ⟨some 66, _, _, _, _, _⟩) (i := 6) (v := .bool true) rfl (by kernel_rfl) (by kernel_rfl) (by kernel_rfl) (fun _ _ _ h => h) (.inl ⟨by kernel_rfl, fun u hu => by go_simp⟩) hH ?_
  try simp only [Act.put, List.setIfInBounds_toArray, List.set_cons_zero, List.set_cons_succ]
  refine wpAnyH_take (oi := ⟨some 67, _, _, _, _, _⟩) (i := 7) (v := .bool true) rfl (by kernel_rfl) (by kernel_rfl) (by kernel_rfl) (fun _ _ _ h => h) (.inl ⟨by kernel_rfl, fun u hu => by go_simp⟩) hH ?_
  try simp only [Act.put, List.setIfInBounds_toArray, List.set_cons_zero, List.set_cons_succ]
  refine wpAnyH_take (oi := ⟨some 68, _, _, _, _, _⟩) (i := 8) (v := .int .i64 210) rfl (by kernel_rfl) (by kernel_rfl) (by kernel_rfl) (fun _ _ _ h => h) (.inl ⟨by kernel_rfl, fun u hu => by go_simp⟩) hH ?_
  try simp only [Act.put, List.setIfInBounds_toArray, List.set_cons_zero, List.set_cons_succ]
  refine wpAnyH_take (oi := ⟨some 69, _, _, _, _, _⟩) (i := 9) (v := .bool true) rfl (by kernel_rfl) (by kernel_rfl) (by kernel_rfl) (fun _ _ _ h => h) (.inl ⟨by kernel_rfl, fun u hu => by go_simp⟩) hH ?_
  try simp only [Act.put, List.setIfInBounds_toArray, List.set_cons_zero, List.set_cons_succ]
  refine wpAnyH_take (oi := ⟨some 70, _, _, _, _, _⟩) (i := 10) (v := .bool true) rfl (by kernel_rfl) (by kernel_rfl) (by kernel_rfl) (fun _ _ _ h => h) (.inl ⟨by kernel_rfl, fun u hu => by go_simp⟩) hH ?_
  try simp only [Act.put, List.setIfInBounds_toArray, List.set_cons_zero, List.set_cons_succ]
  refine wpAnyH_take (oi := ⟨some 0, _, _, _, _, _⟩) (i := 11) (v := .bool true) rfl (by kernel_rfl) (by kernel_rfl) (by kernel_rfl) (fun _ _ _ h => h) (.inl ⟨by kernel_rfl, fun u hu => by go_simp⟩) hH ?_
  try simp only [Act.put, List.setIfInBounds_toArray, List.set_cons_zero]
  refine wpAnyH_done (by kernel_rfl) ?_ _
  clear hH
  go_wp2
  go_ret
  exact ⟨rfl, N9.out.1⟩
end Go.Proofs.YtehnhjdjjalifaaGreatDoor

namespace Go.Proofs.YtehnhjdjjalifaaGreatDoor
open Go Go.RowKit Go.Shelf
set_option linter.unusedVariables false
set_option maxHeartbeats 4000000
set_option maxRecDepth 20000

theorem sv_ok (w : World) (tb : Hid (Tbs w)) (s : Bd) (h : chkB s = 0) (P : List UInt8) (hP : savB s = P) : ∀ y M, Below w.heap.size w y → BL y M s → Calls Tryz.prog 7 #[.agg M] y fun e w' => ∃ sp cap, e = .returned (.tuple #[.slice sp P.length cap, .int .i64 0]) ∧ Hid (Below y.heap.size y w' ∧ LB w' sp P ∧ P.length ≤ cap ∧ OwnL 5 1 cB y.heap.size w' (.slice sp P.length cap) P) := fun y M hy hM => (psave_any y (tb.out.below hy) M s hM).mono fun e w' k => by
  rcases k with ⟨_, v, e1, k⟩ | ⟨k, _⟩
  · rw [hP] at k
    obtain ⟨sp, cap, hv, hb, _, _, hc⟩ := k.out.own.open kByte.len
    subst hv
    exact ⟨sp, cap, e1, k.out.low, hb, hc, k.out.own⟩
  · exact absurd h k
theorem sv_no (w : World) (tb : Hid (Tbs w)) (s : Bd) (h : chkB s ≠ 0) : ∀ y M, Below w.heap.size w y → BL y M s → Calls Tryz.prog 7 #[.agg M] y fun e w' => e = .returned (.tuple #[.slice none 0 0, .int .i64 212]) ∧ Hid (Below y.heap.size y w') := fun y M hy hM => (psave_any y (tb.out.below hy) M s hM).mono fun e w' k => by
  rcases k with ⟨k, _⟩ | ⟨_, k⟩
  · exact absurd k h
  · exact k
theorem lo_ok (w : World) (tb : Hid (Tbs w)) (l : List UInt8) (s : Bd) (hn : l.length ≤ 4000000000) (h1 : formB l = true) (h2 : sumOk l = true) (h3 : bdOf l = s) (h4 : chkB s = 0) : ∀ y sp cap, Below w.heap.size w y → LB y sp l → l.length ≤ cap → Calls Tryz.prog 11 #[.slice sp l.length cap] y fun e w' => ∃ M, e = .returned (.tuple #[.agg M, .int .i64 0]) ∧ Hid (Below y.heap.size y w' ∧ BL w' M s ∧ MOk y l M w') := fun y sp cap hy hl hc => (pload_any y (tb.out.below hy) sp cap l hl hn hc).mono fun e w' h => by
  obtain ⟨M, E, e1, hb, k⟩ := zLd y h
  rcases k with ⟨_, _, _, k, hM⟩ | ⟨k, _⟩
  · subst k
    refine ⟨M, e1, hb.out, ?_, hM.out⟩
    have := hM.out.bl
    rw [h3] at this
    exact this
  · exact absurd ⟨h1, h2, by rw [h3]; exact h4⟩ k
theorem lo_no (w : World) (tb : Hid (Tbs w)) (l : List UInt8) (hn : l.length ≤ 4000000000) (h : ¬ (formB l = true ∧ sumOk l = true ∧ chkB (bdOf l) = 0)) : ∃ E : Int, (E != 0) = true ∧ (E == 0) = false ∧ ∀ y sp cap, Below w.heap.size w y → LB y sp l → l.length ≤ cap → Calls Tryz.prog 11 #[.slice sp l.length cap] y fun e w' => e = .returned (.tuple #[.agg zBd, .int .i64 E]) ∧ Hid (Below y.heap.size y w') := by
  by_cases hf : formB l = true
  · by_cases hs : sumOk l = true
    · refine ⟨212, rfl, rfl, fun y sp cap hy hl hc => (pload_any y (tb.out.below hy) sp cap l hl hn hc).mono fun e w' k => ?_⟩
      rcases k with ⟨k, _⟩ | ⟨_, k, _⟩ | ⟨_, _, _, k⟩ | ⟨_, _, k, _⟩
      · rw [hf] at k; cases k
      · rw [hs] at k; cases k
      · exact k
      · exact absurd ⟨hf, hs, k⟩ h
    · refine ⟨211, rfl, rfl, fun y sp cap hy hl hc => (pload_any y (tb.out.below hy) sp cap l hl hn hc).mono fun e w' k => ?_⟩
      rcases k with ⟨k, _⟩ | ⟨_, _, k⟩ | ⟨_, k, _⟩ | ⟨_, k, _⟩
      · rw [hf] at k; cases k
      · exact k
      · exact absurd k hs
      · exact absurd k hs
  · refine ⟨210, rfl, rfl, fun y sp cap hy hl hc => (pload_any y (tb.out.below hy) sp cap l hl hn hc).mono fun e w' k => ?_⟩
    rcases k with ⟨_, k⟩ | ⟨k, _⟩ | ⟨k, _⟩ | ⟨k, _⟩
    · exact k
    · exact absurd k hf
    · exact absurd k hf
    · exact absurd k hf
end Go.Proofs.YtehnhjdjjalifaaGreatDoor

namespace Go.Proofs.YtehnhjdjjalifaaGreatDoor
open Go Go.RowKit Go.Shelf
set_option linter.unusedVariables false
set_option maxHeartbeats 4000000
set_option maxRecDepth 20000

/-- Rows of bytes that are nobody else's, and boxes of machines. -/
structure Ry (w : World) (Bs : List (Nat × Array Value)) (L : List (Value × List UInt8)) (z : World) : Prop where
  own : ∀ (i : Nat) (v : Value) (l : List UInt8), L[i]? = some (v, l) → OwnL 5 1 cB w.heap.size z v l
  ne : ∀ (i j : Nat) (v : Value) (l : List UInt8) (v' : Value) (l' : List UInt8) (g : Nat), L[i]? = some (v, l) → L[j]? = some (v', l') → v.ownBlock = some g → v'.ownBlock = some g → i = j
  bx : ∀ (i b : Nat) (cs : Array Value), Bs[i]? = some (b, cs) → Bx z b cs 34
  low : Below w.heap.size w z
theorem Ry.below {w z z' : World} {Bs : List (Nat × Array Value)} {L : List (Value × List UInt8)} (h : Ry w Bs L z) (hb : Below z.heap.size z z') : Ry w Bs L z' :=
  ⟨fun i v l e => (h.own i v l e).below hb, h.ne, fun i b cs e => (hb.block _ (heap_lt (h.bx i b cs e))).trans (h.bx i b cs e), h.low.trans (hb.mono h.low.size)⟩
theorem Ry.nil (w : World) : Ry w [] [] w := ⟨fun _ _ _ e => (by simp at e), fun _ _ _ _ _ _ _ e => (by simp at e), fun _ _ _ e => (by simp at e), Below.refl _ _⟩
theorem snoc_get {α : Type} {l : List α} {a b : α} {i : Nat} (h : (l ++ [a])[i]? = some b) : l[i]? = some b ∨ (i = l.length ∧ b = a) := by
  rcases Nat.lt_or_ge i l.length with hi | hi
  · rw [List.getElem?_append_left hi] at h
    exact .inl h
  · rw [List.getElem?_append_right hi] at h
    have h0 := (List.getElem?_eq_some_iff.1 h).1
    have e : i = l.length := by simp at h0; omega
    subst e
    rw [Nat.sub_self] at h
    exact .inr ⟨rfl, (Option.some.inj h).symm⟩
theorem Ry.row {w z z' : World} {Bs : List (Nat × Array Value)} {L : List (Value × List UInt8)} {v : Value} {l : List UInt8} (h : Ry w Bs L z) (hb : Below z.heap.size z z') (ho : OwnL 5 1 cB z.heap.size z' v l) : Ry w Bs (L ++ [(v, l)]) z' := by
  have k := h.below hb
  refine ⟨fun i v1 l1 e => ?_, fun i j v1 l1 v2 l2 g e1 e2 h1 h2 => ?_, k.bx, k.low⟩
  · rcases snoc_get e with e | ⟨rfl, q⟩
    · exact k.own i v1 l1 e
    · injection q with e1 e2
      subst e1
      subst e2
      exact ho.weak h.low.size
  · rcases snoc_get e1 with p1 | ⟨rfl, q1⟩ <;> rcases snoc_get e2 with p2 | ⟨rfl, q2⟩
    · exact h.ne i j v1 l1 v2 l2 g p1 p2 h1 h2
    · injection q2 with q2 _
      subst q2
      have a1 := ((h.own i v1 l1 p1).lt g h1).2
      have a2 := (ho.lt g h2).1
      omega
    · injection q1 with q1 _
      subst q1
      have a1 := ((h.own j v2 l2 p2).lt g h2).2
      have a2 := (ho.lt g h1).1
      omega
    · rfl
theorem Ry.box {w z z' : World} {Bs : List (Nat × Array Value)} {L : List (Value × List UInt8)} {b : Nat} {cs : Array Value} (h : Ry w Bs L z) (hb : Below z.heap.size z z') (hx : Bx z' b cs 34) : Ry w (Bs ++ [(b, cs)]) L z' := by
  have k := h.below hb
  refine ⟨k.own, k.ne, fun i b1 c1 e => ?_, k.low⟩
  rcases snoc_get e with e | ⟨rfl, q⟩
  · exact k.bx i b1 c1 e
  · injection q with e1 e2
    subst e1
    subst e2
    exact hx
theorem Ry.put {w z z' : World} {Bs : List (Nat × Array Value)} {L : List (Value × List UInt8)} (h : Ry w Bs L z) (b : Nat) (cs : Array Value) (hb0 : w.heap.size ≤ b) (hx : Bx z b cs 34) (hne : ∀ (i b1 : Nat) (c1 : Array Value), Bs[i]? = some (b1, c1) → b1 ≠ b) (cs' : Array Value) (k : Bx z' b cs' 34 ∧ (∀ B, B ≤ b → Below B z z') ∧ ∀ q, q ≠ b → z'.heap[q]? = z.heap[q]?) : Ry w (Bs ++ [(b, cs')]) L z' := by
  refine ⟨fun i v l e => (h.own i v l e).keepB fun g hg => k.2.2 g ?_, h.ne, fun i b1 c1 e => ?_, h.low.trans (k.2.1 _ hb0)⟩
  · obtain ⟨ds, hd⟩ := (h.own i v l e).ty g hg
    exact Bx.unlike hd hx (by decide)
  · rcases snoc_get e with e | ⟨rfl, q⟩
    · exact (k.2.2 b1 (hne i b1 c1 e)).trans (h.bx i b1 c1 e)
    · injection q with e1 e2
      subst e1
      subst e2
      exact k.1
/-- One byte of a row is written over. -/
theorem Ry.set {w z : World} {Bs : List (Nat × Array Value)} {L : List (Value × List UInt8)} (h : Ry w Bs L z) (i g n cap : Nat) (l : List UInt8) (hi : L[i]? = some (.slice (some ⟨g, 0, none⟩) n cap, l)) (k : Nat) (hk : k < l.length) (e : UInt8) : Ry w Bs (L.set i (.slice (some ⟨g, 0, none⟩) n cap, l.set k e)) (z.setCell ⟨g, k, none⟩ (byV e)) ∧ (∃ x, z.cell? ⟨g, k, none⟩ = some x) ∧ z.frozen? ⟨g, k, none⟩ = false := by
  have hs := (h.own i _ l hi).set kByte.len k hk e
  rw [Nat.mul_one] at hs
  have hw : z.setCells g k (cB e) = z.setCell ⟨g, k, none⟩ (byV e) := rfl
  rw [hw] at hs
  obtain ⟨ho, hth, hge⟩ := hs
  have hlt : i < L.length := (List.getElem?_eq_some_iff.1 hi).1
  have hgo : (Value.slice (some ⟨g, 0, none⟩) n cap).ownBlock = some g := rfl
  refine ⟨⟨fun j v l1 e1 => ?_, fun j1 j2 v1 l1 v2 l2 g1 e1 e2 h1 h2 => ?_, fun j b cs e1 => ?_, h.low.setCell (p := ⟨g, k, none⟩) hge _⟩, ?_, ?_⟩
  · by_cases hj : i = j
    · subst hj
      rw [List.getElem?_set_self hlt] at e1
      injection e1 with e1
      injection e1 with e1 e2
      subst e1
      subst e2
      exact ho
    · rw [List.getElem?_set_ne hj] at e1
      exact (h.own j v l1 e1).keepB fun g1 hg1 => heap_setCell_other z ⟨g, k, none⟩ g1 _ fun eg => by
        have eg' : g1 = g := eg
        subst eg'
        exact hj (h.ne i j _ _ _ _ g1 hi e1 hgo hg1)
  · have key : ∀ (j : Nat) (v : Value) (l1 : List UInt8), (L.set i (.slice (some ⟨g, 0, none⟩) n cap, l.set k e))[j]? = some (v, l1) → ∃ l2, L[j]? = some (v, l2) := fun j v l1 e1 => by
      by_cases hj : i = j
      · subst hj
        rw [List.getElem?_set_self hlt] at e1
        injection e1 with e1
        injection e1 with e1 e2
        subst e1
        exact ⟨_, hi⟩
      · rw [List.getElem?_set_ne hj] at e1
        exact ⟨_, e1⟩
    obtain ⟨_, a1⟩ := key j1 v1 l1 e1
    obtain ⟨_, a2⟩ := key j2 v2 l2 e2
    exact h.ne j1 j2 _ _ _ _ g1 a1 a2 h1 h2
  · obtain ⟨ds, hd⟩ := (h.own i _ l hi).ty g hgo
    exact (heap_setCell_other z ⟨g, k, none⟩ b _ (Bx.unlike (h.bx j b cs e1) hd (by decide))).trans (h.bx j b cs e1)
  · obtain ⟨h1, _⟩ := hth 0 (by decide)
    exact Option.isSome_iff_exists.1 h1
  · exact (hth 0 (by decide)).2
/-- A row has one byte more. -/
theorem Ry.add {w z z' : World} {Bs : List (Nat × Array Value)} {L : List (Value × List UInt8)} (h : Ry w Bs L z) (i : Nat) (v : Value) (l : List UInt8) (hi : L[i]? = some (v, l)) (e : UInt8) (v' : Value) (o : Obj) (a : App1L 5 1 cB w.heap.size v l e v' (z.alloc o) z') : Ry w Bs (L.set i (v', l ++ [e])) z' := by
  have hlt : i < L.length := (List.getElem?_eq_some_iff.1 hi).1
  have b1 : Below z.heap.size z (z.alloc o) := (Below.refl _ _).alloc (Nat.le_refl _) o
  have k := h.below b1
  refine ⟨fun j v1 l1 e1 => ?_, fun j1 j2 v1 l1 v2 l2 g e1 e2 h1 h2 => ?_, fun j b cs e1 => ?_, k.low.trans a.cu.low⟩
  · by_cases hj : i = j
    · subst hj
      rw [List.getElem?_set_self hlt] at e1
      injection e1 with e1
      injection e1 with e1 e2
      subst e1
      subst e2
      exact a.own
    · rw [List.getElem?_set_ne hj] at e1
      exact (k.own j v1 l1 e1).cu a.cu fun g j' hg hF => hj (h.ne i j _ _ _ _ g hi e1 hF.1 hg)
  · by_cases hj1 : i = j1 <;> by_cases hj2 : i = j2
    · omega
    · subst hj1
      rw [List.getElem?_set_self hlt] at e1
      injection e1 with e1
      injection e1 with e1 _
      subst e1
      rw [List.getElem?_set_ne hj2] at e2
      rcases a.new g h1 with h3 | h3
      · exact h.ne i j2 _ _ _ _ g hi e2 h3 h2
      · have := ((h.own j2 _ _ e2).lt g h2).2
        have hz : (z.alloc o).heap.size = z.heap.size + 1 := by simp
        omega
    · subst hj2
      rw [List.getElem?_set_self hlt] at e2
      injection e2 with e2
      injection e2 with e2 _
      subst e2
      rw [List.getElem?_set_ne hj1] at e1
      rcases a.new g h2 with h3 | h3
      · exact h.ne j1 i _ _ _ _ g e1 hi h1 h3
      · have := ((h.own j1 _ _ e1).lt g h1).2
        have hz : (z.alloc o).heap.size = z.heap.size + 1 := by simp
        omega
    · rw [List.getElem?_set_ne hj1] at e1
      rw [List.getElem?_set_ne hj2] at e2
      exact h.ne j1 j2 _ _ _ _ g e1 e2 h1 h2
  · have hb := k.bx j b cs e1
    refine (a.cu.blk b (heap_lt hb) fun j' hF => ?_).trans hb
    obtain ⟨ds, hd⟩ := (k.own i _ l hi).ty b hF.1
    exact Bx.unlike hb hd (by decide) rfl
/-- A copy onto the front of a block. -/
theorem at_copyG {α : Type} {T t : TypeId} {s bts : Nat} {c : α → List Value} (K : KdL T t s bts c) {ops : Array Oper} {rest : List Oper} {o : Oper} {a : Act} {w : World} {Q : Exit → Act → World → Prop} (hgd : o.guard = none) (d e : Operand)
    (ho : o.op = .call { callee := .builtin .copy, args := #[d, e], argTypes := #[T, T] })
    (g dLen dCap : Nat) (sp : Option Addr) (n sCap : Nat) (hd : a.eval d = .slice (some ⟨g, 0, none⟩) dLen dCap) (hs : a.eval e = .slice sp n sCap)
    (cur : Array Value) (hg : Bx w g cur t) (l : List α) (hlen : l.length = n) (hle : n ≤ dLen) (hl : LiesL s c w sp l) (hfit : n * s ≤ cur.size)
    (h : ∀ w', Hid (Bx w' g (splice cur.toList 0 (rowL c l)).toArray t ∧ (∀ B, B ≤ g → Below B w w') ∧ ∀ q, q ≠ g → w'.heap[q]? = w.heap[q]?) → wpList Tryz.prog ops Q rest (a.put o.dst (goInt n)) w') : wpList Tryz.prog ops Q (o :: rest) a w := by
  refine wpList_plain hgd fun K' hK => ?_
  by_cases h0 : n = 0
  · subst h0
    obtain rfl : l = [] := List.eq_nil_of_length_eq_zero hlen
    have hrun := run_copyL0 K w o.type (some ⟨g, 0, none⟩) sp dLen dCap sCap
    unfold Oper.wp
    simp [execOp, ho, resolve, invoke, builtin, hd, hs, hrun, Result.andThen]
    have e : splice cur.toList 0 (rowL c []) = cur.toList := by simp [splice, rowL]
    exact hK _ _ (h w ⟨by rw [e]; exact hg, fun B _ => Below.refl _ _, fun _ _ => rfl⟩)
  · obtain ⟨gb, ob, rfl, _⟩ := hl 0 _ (List.getElem?_eq_getElem (by omega))
    have hsrc : ∀ j v, (rowL c l)[j]? = some v → w.cell? ((⟨gb, ob, none⟩ : Addr).add j) = some v := fun j v hv => by
      rw [Addr.add_lit]
      exact LiesL.cells K.len K.s0 hl j v hv
    have hrun := run_copyL K w o.type g dLen dCap ⟨gb, ob, none⟩ n sCap cur (rowL c l) hg (by rw [rowL_len K.len, hlen]) hle hsrc (by rw [rowL_len K.len, hlen]; exact hfit) (rowL_cell K.one l)
    unfold Oper.wp
    simp [execOp, ho, resolve, invoke, builtin, hd, hs, hrun, Result.andThen]
    exact hK _ _ (h _ ⟨setRow_heap w g cur _ _ _ hg, fun B hB => below_setRow (Below.refl _ _) hB _, fun q hq => setRow_other w g q _ hq⟩)
theorem mark_row {M : Array Value} {l : List UInt8} (hM : M.size = l.length + 1) (e : UInt8) : ((splice M.toList 0 (rowL cB l)).toArray).setIfInBounds l.length (byV e) = (rowL cB (l ++ [e])).toArray ∧ ((splice M.toList 0 (rowL cB l)).toArray).size = l.length + 1 := by
  have hl : (rowL cB l).length = l.length := by rw [rowL_len kByte.len, Nat.mul_one]
  have hM' : M.toList.length = l.length + 1 := by rw [Array.length_toList, hM]
  have hsz : ((splice M.toList 0 (rowL cB l)).toArray).size = l.length + 1 := by
    rw [List.size_toArray, length_splice _ _ _ (by omega), hM']
  refine ⟨?_, hsz⟩
  apply Array.ext_getElem?
  intro k
  rw [Array.getElem?_setIfInBounds, hsz]
  by_cases hk : l.length = k
  · subst hk
    rw [if_pos rfl, if_pos (by omega), rowL_app, List.getElem?_toArray, List.getElem?_append_right (by omega), hl, Nat.sub_self]
    rfl
  · rw [if_neg hk, List.getElem?_toArray, List.getElem?_toArray, spliceL_at _ _ _ (by omega), hl, rowL_app]
    by_cases h1 : k < l.length
    · rw [if_pos ⟨Nat.zero_le _, by omega⟩, Nat.sub_zero, List.getElem?_append_left (by omega)]
    · rw [if_neg (by omega), List.getElem?_eq_none (by omega), List.getElem?_eq_none (by rw [List.length_append, hl, rowL_one]; show _ + 1 ≤ k; omega)]
/-- A slice up to somewhere, in a block of its own. -/
theorem slUp (g n cap k : Nat) (h : k ≤ cap) (h0 : 0 < cap) : ∀ v, (Instr.sliceAt 31 (.slice (some ⟨g, 0, none⟩) n cap) none (some (.int .i64 (k : Int))) none).run Tryz.prog v = .ok (.slice (some ⟨g, 0, none⟩) k cap) v := fun v => by
  have hu : Tryz.prog.underlying 31 = some (.slice (Tryz.prog.elem 31)) := by kernel_rfl
  rw [run_sliceAt_slice v _ _ _ _ _ hu, run_slice_h v _ _ _ _ hu .i64 (k : Int) (by omega) (by omega)]
  have hz : ∀ v, (sizeOf (Tryz.prog.elem 31)).run Tryz.prog v = .ok 1 v := fun v => by kernel_rfl
  rw [hz]
  simp only [Result.andThen_ok, sliced, Int.toNat_natCast, Nat.sub_zero]
  rw [if_neg (by omega)]
  rfl
/-- A machine that was lent. -/
structure LM (B : Nat) (w : World) (C : Array Value) (s : Bd) (b1 b2 : Nat) : Prop where
  c : C = bCs s (.slice (some ⟨b1, 0, none⟩) s.ram.length (s.ram.length + 1)) (.slice (some ⟨b2, 0, none⟩) s.rom.length (s.rom.length + 1))
  r : Bx w b1 (rowL cB (s.ram ++ [77])).toArray 5
  o : Bx w b2 (rowL cB (s.rom ++ [78])).toArray 5
  ge : B ≤ b1 ∧ B ≤ b2
  ne : b1 ≠ b2
theorem LM.below {B : Nat} {w y : World} {C : Array Value} {s : Bd} {b1 b2 : Nat} (h : LM B w C s b1 b2) (hb : Below w.heap.size w y) : LM B y C s b1 b2 :=
  ⟨h.c, (hb.block _ (heap_lt h.r)).trans h.r, (hb.block _ (heap_lt h.o)).trans h.o, h.ge, h.ne⟩
theorem lies_front {w : World} {g : Nat} {l : List UInt8} {e : UInt8} (h : Bx w g (rowL cB (l ++ [e])).toArray 5) : LB w (some ⟨g, 0, none⟩) l := fun j a hj => ⟨g, 0, rfl, bxL_range kByte.len h j a (by rw [List.getElem?_append_left (List.getElem?_eq_some_iff.1 hj).1]; exact hj)⟩
theorem LM.bl {B : Nat} {w w0 : World} {C C0 : Array Value} {s : Bd} {b1 b2 : Nat} (h : LM B w C s b1 b2) (h0 : BL w0 C0 s) : BL w C s :=
  ⟨⟨_, _, _, _, h.c, lies_front h.r, lies_front h.o⟩, h0.ok, h0.ln, h0.cy, h0.gt⟩
theorem mark_at {w : World} {g n : Nat} {l : List UInt8} {e : UInt8} (h : Bx w g (rowL cB (l ++ [e])).toArray 5) (hn : l.length = n) : w.cell? ⟨g, n, none⟩ = some (byV e) := h.c n (byV e) (by
  rw [List.getElem?_toArray, rowL_app, List.getElem?_append_right (by rw [rowL_len kByte.len]; omega), rowL_len kByte.len, hn, Nat.mul_one, Nat.sub_self]
  rfl)
theorem lent21_any (w : World) (C : Array Value) (s : Bd) (hs : Hid (BL w C s)) (n1 : s.ram.length ≤ 2147483647) (n2 : s.rom.length ≤ 2147483647) :
    Calls Tryz.prog 6 #[.agg C] w fun e w' => ∃ C' b1 b2, e = .returned (.agg C') ∧ Hid (LM w.heap.size w' C' s b1 b2 ∧ Below w.heap.size w w') := by
  obtain ⟨⟨sR, cR, sO, cO, hC, hlR, hlO⟩, _⟩ := hs
  have lR : Hid (LB w sR s.ram) := hlR
  have lO : Hid (LB w sO s.rom) := hlO
  obtain ⟨nR, hnR⟩ : ∃ z, s.ram.length = z := ⟨_, rfl⟩
  obtain ⟨nO, hnO⟩ : ∃ z, s.rom.length = z := ⟨_, rfl⟩
  obtain ⟨M1, hM1, mk1⟩ := mk_row kByte (nR + 1) (by omega) (by omega)
  obtain ⟨M2, hM2, mk2⟩ := mk_row kByte (nO + 1) (by omega) (by omega)
  have m1 : ∀ v, (Instr.makeSlice 31 (.int .i64 ((nR : Int) + 1)) (.int .i64 ((nR : Int) + 1))).run Tryz.prog v = .ok (.slice (some ⟨v.heap.size, 0, none⟩) (nR + 1) (nR + 1)) (v.alloc (.cells M1 5)) := fun v => mk1 v
  have m2 : ∀ v, (Instr.makeSlice 31 (.int .i64 ((nO : Int) + 1)) (.int .i64 ((nO : Int) + 1))).run Tryz.prog v = .ok (.slice (some ⟨v.heap.size, 0, none⟩) (nO + 1) (nO + 1)) (v.alloc (.cells M2 5)) := fun v => mk2 v
  have f1 := mark_row (M := M1) (l := s.ram) (by omega) 77
  have f2 := mark_row (M := M2) (l := s.rom) (by omega) 78
  rw [hnR] at f1 n1
  rw [hnO] at f2 n2
  obtain ⟨A1, hA1⟩ : ∃ z, Hid ((splice M1.toList 0 (rowL cB s.ram)).toArray = z) := ⟨_, (rfl : (splice M1.toList 0 (rowL cB s.ram)).toArray = _)⟩
  obtain ⟨A2, hA2⟩ : ∃ z, Hid ((splice M2.toList 0 (rowL cB s.rom)).toArray = z) := ⟨_, (rfl : (splice M2.toList 0 (rowL cB s.rom)).toArray = _)⟩
  obtain ⟨F1, hF1⟩ : ∃ z, Hid ((rowL cB (s.ram ++ [77])).toArray = z) := ⟨_, (rfl : (rowL cB (s.ram ++ [77])).toArray = _)⟩
  obtain ⟨F2, hF2⟩ : ∃ z, Hid ((rowL cB (s.rom ++ [78])).toArray = z) := ⟨_, (rfl : (rowL cB (s.rom ++ [78])).toArray = _)⟩
  rw [hA1.out, hF1.out] at f1
  rw [hA2.out, hF2.out] at f2
  obtain ⟨v1, hv1⟩ : ∃ v, Hid (A1[nR]? = some v) := ⟨_, Array.getElem?_eq_getElem (by rw [f1.2]; omega)⟩
  obtain ⟨v2, hv2⟩ : ∃ v, Hid (A2[nO]? = some v) := ⟨_, Array.getElem?_eq_getElem (by rw [f2.2]; omega)⟩
  have g1f : Hid (A1.setIfInBounds nR (.int .u8 77) = F1) := f1.1
  have g2f : Hid (A2.setIfInBounds nO (.int .u8 78) = F2) := f2.1
  have fa : Hid (C[32]? = some (.slice sR nR cR) ∧ C[33]? = some (.slice sO nO cO) ∧ C.size = 35 ∧ (∀ a b, (C.setIfInBounds 32 a).setIfInBounds 33 b = bCs s a b) ∧ (∀ s1 k1 s2 k2, (bCs s (.slice s1 nR k1) (.slice s2 nO k2)).all (·.oneCell') = true)) := by
    rw [hC, hnR, hnO]
    exact ⟨rfl, rfl, rfl, fun _ _ => rfl, fun _ _ _ _ => bCs_one _ _ _ _ _ _ _⟩
  have nn : Hid (s.ram.length = nR ∧ s.rom.length = nO ∧ M1.size = nR + 1 ∧ M2.size = nO + 1) := ⟨hnR, hnO, by omega, by omega⟩
  have iR : (nR : Int) ≤ 2147483647 := by omega
  have iO : (nO : Int) ≤ 2147483647 := by omega
  obtain ⟨g1, hg1⟩ : ∃ z, w.heap.size + 2 = z := ⟨_, rfl⟩
  obtain ⟨g2, hg2⟩ : ∃ z, w.heap.size + 3 = z := ⟨_, rfl⟩
  have ix1 := fun v => idxB .i64 g1 0 (nR + 1) (nR + 1) nR v (by omega)
  have ix2 := fun v => idxB .i64 g2 0 (nO + 1) (nO + 1) nO v (by omega)
  simp only [Nat.zero_add] at ix1 ix2
  have sl1 := slUp g1 (nR + 1) (nR + 1) nR (by omega) (by omega)
  have sl2 := slUp g2 (nO + 1) (nO + 1) nO (by omega) (by omega)
  obtain ⟨D1, hD1⟩ : ∃ z, Hid (C.setIfInBounds 32 (.slice (some ⟨g1, 0, none⟩) nR (nR + 1)) = z) := ⟨_, (rfl : C.setIfInBounds 32 (.slice (some ⟨g1, 0, none⟩) nR (nR + 1)) = _)⟩
  obtain ⟨D2, hD2⟩ : ∃ z, Hid (D1.setIfInBounds 33 (.slice (some ⟨g2, 0, none⟩) nO (nO + 1)) = z) := ⟨_, (rfl : D1.setIfInBounds 33 (.slice (some ⟨g2, 0, none⟩) nO (nO + 1)) = _)⟩
  have hD : Hid (D2 = bCs s (.slice (some ⟨g1, 0, none⟩) nR (nR + 1)) (.slice (some ⟨g2, 0, none⟩) nO (nO + 1)) ∧ D1[33]? = some (.slice sO nO cO) ∧ D2.size = 35 ∧ D2.all (·.oneCell') = true) := by
    have e : D2 = bCs s (.slice (some ⟨g1, 0, none⟩) nR (nR + 1)) (.slice (some ⟨g2, 0, none⟩) nO (nO + 1)) := by rw [← hD2.out, ← hD1.out]; exact fa.out.2.2.2.1 _ _
    refine ⟨e, ?_, by rw [e]; rfl, by rw [e]; exact fa.out.2.2.2.2 _ _ _ _⟩
    rw [← hD1.out, Array.getElem?_setIfInBounds_ne (by decide)]
    exact fa.out.2.1
  have K0 : Hid (Fm w [(w.heap.size, C, 34), (w.heap.size + 1, zBd, 34)] ((w.alloc (.cells C 34)).alloc (.cells #[.int .u16 0, .int .u16 0, .int .u16 0, .int .u16 0, .int .u16 0, .int .u16 0, .int .u16 0, .int .u16 0, .int .u16 0, .int .u16 0, .int .u16 0, .int .u16 0, .int .u16 0, .int .u16 0, .int .u16 0, .int .u16 0, .int .u8 0, .bool false, .int .u8 0, .int .u8 0, .int .u8 0, .bool false, .bool false, .int .u8 0, .int .u8 0, .int .u8 0, .int .i64 0, .int .i64 0, .bool false, .int .i64 0, .int .u8 0, .bool false, .slice none 0 0, .slice none 0 0, .int .u64 0] 34))) := Fm.two w _ _ _ _
  have hsz : Hid (((w.alloc (.cells C 34)).alloc (.cells #[.int .u16 0, .int .u16 0, .int .u16 0, .int .u16 0, .int .u16 0, .int .u16 0, .int .u16 0, .int .u16 0, .int .u16 0, .int .u16 0, .int .u16 0, .int .u16 0, .int .u16 0, .int .u16 0, .int .u16 0, .int .u16 0, .int .u8 0, .bool false, .int .u8 0, .int .u8 0, .int .u8 0, .bool false, .bool false, .int .u8 0, .int .u8 0, .int .u8 0, .int .i64 0, .int .i64 0, .bool false, .int .i64 0, .int .u8 0, .bool false, .slice none 0 0, .slice none 0 0, .int .u64 0] 34)).heap.size = g1) := by show _ = _; rw [← hg1]; simp
  have hgg : Hid (g1 + 1 = g2 ∧ w.heap.size + 2 = g1) := ⟨by omega, hg1⟩
  clear hC hlR hlO hnR hnO hM1 hM2 mk1 mk2 f1 f2 n1 n2 hg1 hg2
  go_enter Tryz.func6, Tryz.ntmps6
  go_upto_region 1 with (fail)
  generalize ((w.alloc (.cells C 34)).alloc (.cells #[.int .u16 0, .int .u16 0, .int .u16 0, .int .u16 0, .int .u16 0, .int .u16 0, .int .u16 0, .int .u16 0, .int .u16 0, .int .u16 0, .int .u16 0, .int .u16 0, .int .u16 0, .int .u16 0, .int .u16 0, .int .u16 0, .int .u8 0, .bool false, .int .u8 0, .int .u8 0, .int .u8 0, .bool false, .bool false, .int .u8 0, .int .u8 0, .int .u8 0, .int .i64 0, .int .i64 0, .bool false, .int .i64 0, .int .u8 0, .bool false, .slice none 0 0, .slice none 0 0, .int .u64 0] 34)) = y0 at K0 hsz ⊢
  have c32 := (K0.out.bx 0 _ _ _ rfl).c 32 _ fa.out.1
  go_upto_region 2 with (fail)
  rw [hsz.out]
  have K1 : Hid (Fm w [(w.heap.size, C, 34), (w.heap.size + 1, zBd, 34), (g1, M1, 5)] (y0.alloc (.cells M1 5))) := by
    have := K0.out.new M1 5
    rw [hsz.out] at this
    exact this
  have hsz1 : Hid ((y0.alloc (.cells M1 5)).heap.size = g2) := by show _ = _; rw [← hgg.out.1, ← hsz.out]; simp
  generalize (y0.alloc (.cells M1 5)) = y1 at K1 hsz1 ⊢
  clear c32 hsz K0
  have c33 := (K1.out.bx 0 _ _ _ rfl).c 33 _ fa.out.2.1
  go_upto_region 3 with (fail)
  rw [hsz1.out]
  have K2 : Hid (Fm w [(w.heap.size, C, 34), (w.heap.size + 1, zBd, 34), (g1, M1, 5), (g2, M2, 5)] (y1.alloc (.cells M2 5))) := by
    have := K1.out.new M2 5
    rw [hsz1.out] at this
    exact this
  generalize (y1.alloc (.cells M2 5)) = y2 at K2 ⊢
  clear c33 hsz1 K1
  have c32 := (K2.out.bx 0 _ _ _ rfl).c 32 _ fa.out.1
  go_upto_region 4 with ((with_reducible refine at_copyG kByte ?_ (.tmp 15) (.tmp 17) ?_ g1 (nR + 1) (nR + 1) sR nR cR ?_ ?_ M1 ?_ s.ram ?_ ?_ ?_ ?_ ?_); rfl; rfl; rfl; rfl; exact K2.out.bx 2 _ _ _ rfl; exact nn.out.1; exact Nat.le_succ _; exact lR.out.below K2.out.low; (rw [nn.out.2.2.1]; omega); intro y3 h3; have K3 : Hid (Fm w [(w.heap.size, C, 34), (w.heap.size + 1, zBd, 34), (g1, A1, 5), (g2, M2, 5)] y3) := (by have := K2.out.put 2 _ _ _ _ rfl h3.out; rw [hA1.out] at this; exact this); have c33 := (K3.out.bx 0 _ _ _ rfl).c 33 _ fa.out.2.1; clear h3)
  go_upto_region 5 with ((with_reducible refine at_copyG kByte ?_ (.tmp 19) (.tmp 21) ?_ g2 (nO + 1) (nO + 1) sO nO cO ?_ ?_ M2 ?_ s.rom ?_ ?_ ?_ ?_ ?_); rfl; rfl; rfl; rfl; exact K3.out.bx 3 _ _ _ rfl; exact nn.out.2.1; exact Nat.le_succ _; exact lO.out.below K3.out.low; (rw [nn.out.2.2.2]; omega); intro y4 h4; have K4 : Hid (Fm w [(w.heap.size, C, 34), (w.heap.size + 1, zBd, 34), (g1, A1, 5), (g2, A2, 5)] y4) := (by have := K3.out.put 3 _ _ _ _ rfl h4.out; rw [hA2.out] at this; exact this); clear h4)
  clear c32 c33 K2 K3
  have c32 := (K4.out.bx 0 _ _ _ rfl).c 32 _ fa.out.1
  have k0 := (K4.out.bx 2 _ _ _ rfl).c nR _ hv1.out
  have z0 := (K4.out.bx 2 _ _ _ rfl).fz nR
  go_upto_region 6 with (fail)
  have K5 : Hid (Fm w [(w.heap.size, C, 34), (w.heap.size + 1, zBd, 34), (g1, F1, 5), (g2, A2, 5)] (y4.setCell ⟨g1, nR, none⟩ (.int .u8 77))) := K4.out.setCell 2 _ _ _ _ rfl nR _ g1f.out
  generalize (y4.setCell ⟨g1, nR, none⟩ (.int .u8 77)) = y5 at K5 ⊢
  clear c32 k0 z0 K4
  have c33 := (K5.out.bx 0 _ _ _ rfl).c 33 _ fa.out.2.1
  have k0 := (K5.out.bx 3 _ _ _ rfl).c nO _ hv2.out
  have z0 := (K5.out.bx 3 _ _ _ rfl).fz nO
  go_upto_region 7 with (fail)
  have K6 : Hid (Fm w [(w.heap.size, C, 34), (w.heap.size + 1, zBd, 34), (g1, F1, 5), (g2, F2, 5)] (y5.setCell ⟨g2, nO, none⟩ (.int .u8 78))) := K5.out.setCell 3 _ _ _ _ rfl nO _ g2f.out
  generalize (y5.setCell ⟨g2, nO, none⟩ (.int .u8 78)) = y6 at K6 ⊢
  clear c33 k0 z0 K5
  have c32 := (K6.out.bx 0 _ _ _ rfl).c 32 _ fa.out.1
  have z0 := (K6.out.bx 0 _ _ _ rfl).fz 32
  go_upto_region 8 with (fail)
  have K7 : Hid (Fm w [(w.heap.size, D1, 34), (w.heap.size + 1, zBd, 34), (g1, F1, 5), (g2, F2, 5)] (y6.setCell ⟨w.heap.size, 32, none⟩ (.slice (some ⟨g1, 0, none⟩) nR (nR + 1)))) := K6.out.setCell 0 _ _ _ _ rfl 32 _ hD1.out
  generalize (y6.setCell ⟨w.heap.size, 32, none⟩ (.slice (some ⟨g1, 0, none⟩) nR (nR + 1))) = y7 at K7 ⊢
  clear c32 z0 K6
  have c33 := (K7.out.bx 0 _ _ _ rfl).c 33 _ hD.out.2.1
  have z0 := (K7.out.bx 0 _ _ _ rfl).fz 33
  go_upto_region 9 with (fail)
  have K8 : Hid (Fm w [(w.heap.size, D2, 34), (w.heap.size + 1, zBd, 34), (g1, F1, 5), (g2, F2, 5)] (y7.setCell ⟨w.heap.size, 33, none⟩ (.slice (some ⟨g2, 0, none⟩) nO (nO + 1)))) := K7.out.setCell 0 _ _ _ _ rfl 33 _ hD2.out
  generalize (y7.setCell ⟨w.heap.size, 33, none⟩ (.slice (some ⟨g2, 0, none⟩) nO (nO + 1))) = y8 at K8 ⊢
  clear c33 z0 K7
  go_wp2_with (first
    | ((with_reducible refine at_load rtBd w.heap.size D2 ?_ ?_ (.tmp 1) ?_ ?_ ?_ ?_); exact K8.out.bx 0 _ _ _ rfl; exact hD.out.2.2.1; kernel_rfl; rfl; rfl)
    | ((with_reducible refine at_st rtBd (w.heap.size + 1) zBd D2 ?_ ?_ ?_ ?_ (.tmp 2) (.tmp 45) ?_ ?_ ?_ ?_ ?_); exact K8.out.bx 1 _ _ _ rfl; rfl; exact hD.out.2.2.1; exact hD.out.2.2.2; rfl; rfl; rfl; rfl; intro y9 h9; have K9 : Hid (Fm w [(w.heap.size, D2, 34), (w.heap.size + 1, D2, 34), (g1, F1, 5), (g2, F2, 5)] y9) := K8.out.put 1 _ _ _ _ rfl h9.out; clear h9))
  refine ret_row rtBd rfl rfl (K9.out.bx 1 _ _ _ rfl) hD.out.2.2.1 rfl ⟨D2, g1, g2, rfl, ⟨⟨?_, ?_, ?_, ⟨K9.out.ge 2 _ _ _ rfl, K9.out.ge 3 _ _ _ rfl⟩, ?_⟩, K9.out.low⟩⟩
  · rw [nn.out.1, nn.out.2.1]; exact hD.out.1
  · rw [hF1.out]; exact K9.out.bx 2 _ _ _ rfl
  · rw [hF2.out]; exact K9.out.bx 3 _ _ _ rfl
  · have := hgg.out.1; omega
/-- Both lists are written over, and nothing else. -/
structure Wr (B b1 b2 : Nat) (y u : World) : Prop where
  low : Below B y u
  oth : ∀ q, q < y.heap.size → q ≠ b1 → q ≠ b2 → u.heap[q]? = y.heap[q]?
theorem Ry.wr {w y u : World} {Bs : List (Nat × Array Value)} {L : List (Value × List UInt8)} {B b1 b2 : Nat} (h : Ry w Bs L y) (k : Wr B b1 b2 y u) (hB : w.heap.size ≤ B) (h1 : ∃ cs, Bx y b1 cs 5) (h2 : ∃ cs, Bx y b2 cs 5) (hn : ∀ (i : Nat) (v : Value) (l : List UInt8) (g : Nat), L[i]? = some (v, l) → v.ownBlock = some g → g ≠ b1 ∧ g ≠ b2) : Ry w Bs L u := by
  obtain ⟨x1, h1⟩ := h1
  obtain ⟨x2, h2⟩ := h2
  exact ⟨fun i v l e => (h.own i v l e).keepB fun g hg => k.oth g ((h.own i v l e).lt g hg).2 (hn i v l g e hg).1 (hn i v l g e hg).2, h.ne, fun i b cs e => (k.oth b (heap_lt (h.bx i b cs e)) (Bx.unlike (h.bx i b cs e) h1 (by decide)) (Bx.unlike (h.bx i b cs e) h2 (by decide))).trans (h.bx i b cs e), h.low.trans (k.low.mono hB)⟩
structure Bk (B b1 b2 n1 n2 : Nat) (y u : World) : Prop where
  wr : Wr B b1 b2 y u
  one : ∃ cs, Bx u b1 cs 5 ∧ cs.size = n1
  two : ∃ cs, Bx u b2 cs 5 ∧ cs.size = n2
  ge : B ≤ b1 ∧ B ≤ b2
  ne : b1 ≠ b2
theorem Bk.setA {B b1 b2 n1 n2 : Nat} {y u : World} (h : Bk B b1 b2 n1 n2 y u) (i : Nat) (v : Value) : Bk B b1 b2 n1 n2 y (u.setCell ⟨b1, i, none⟩ v) := by
  obtain ⟨c1, h1, s1⟩ := h.one
  obtain ⟨c2, h2, s2⟩ := h.two
  exact ⟨⟨h.wr.low.setCell (p := ⟨b1, i, none⟩) h.ge.1 v, fun q hq q1 q2 => (heap_setCell_other u ⟨b1, i, none⟩ q v q1).trans (h.wr.oth q hq q1 q2)⟩, ⟨_, heap_setCell_same u b1 i c1 _ v h1, by simp [s1]⟩, ⟨c2, (heap_setCell_other u ⟨b1, i, none⟩ b2 v (fun e => h.ne e.symm)).trans h2, s2⟩, h.ge, h.ne⟩
theorem Bk.setB {B b1 b2 n1 n2 : Nat} {y u : World} (h : Bk B b1 b2 n1 n2 y u) (i : Nat) (v : Value) : Bk B b1 b2 n1 n2 y (u.setCell ⟨b2, i, none⟩ v) := by
  obtain ⟨c1, h1, s1⟩ := h.one
  obtain ⟨c2, h2, s2⟩ := h.two
  exact ⟨⟨h.wr.low.setCell (p := ⟨b2, i, none⟩) h.ge.2 v, fun q hq q1 q2 => (heap_setCell_other u ⟨b2, i, none⟩ q v q2).trans (h.wr.oth q hq q1 q2)⟩, ⟨c1, (heap_setCell_other u ⟨b2, i, none⟩ b1 v h.ne).trans h1, s1⟩, ⟨_, heap_setCell_same u b2 i c2 _ v h2, by simp [s2]⟩, h.ge, h.ne⟩
theorem Bk.setAat {B b1 b2 n1 n2 : Nat} {y u : World} (h : Bk B b1 b2 n1 n2 y u) (i : Nat) (hi : i < n1) : (∃ x, u.cell? ⟨b1, i, none⟩ = some x) ∧ u.frozen? ⟨b1, i, none⟩ = false := by
  obtain ⟨c1, h1, s1⟩ := h.one
  exact ⟨⟨_, h1.c i _ (Array.getElem?_eq_getElem (by rw [s1]; exact hi))⟩, h1.fz i⟩
theorem Bk.setBat {B b1 b2 n1 n2 : Nat} {y u : World} (h : Bk B b1 b2 n1 n2 y u) (i : Nat) (hi : i < n2) : (∃ x, u.cell? ⟨b2, i, none⟩ = some x) ∧ u.frozen? ⟨b2, i, none⟩ = false := by
  obtain ⟨c1, h1, s1⟩ := h.two
  exact ⟨⟨_, h1.c i _ (Array.getElem?_eq_getElem (by rw [s1]; exact hi))⟩, h1.fz i⟩
theorem back21_any (y : World) (B : Nat) (C' C : Array Value) (s : Bd) (b1 b2 : Nat) (hL : Hid (LM B y C' s b1 b2)) (hs : Hid (BL y C s)) (h1 : s.ram.length ≤ 2147483647) (h2 : s.rom.length ≤ 2147483647) (hB : B ≤ y.heap.size) :
    Calls Tryz.prog 8 #[.agg C', .agg C] y fun e w' => e = .returned (.bool true) ∧ Hid (Wr B b1 b2 y w') := by
  obtain ⟨sR, cR, sO, cO, hC, _, _⟩ := hs.out.c
  have hSm : Hid (∀ u, Below y.heap.size y u → Calls Tryz.prog 13 #[.agg C', .agg C] u fun e w' => e = .returned (.bool true) ∧ Below u.heap.size u w') := fun u hu => same08_true u C' C s ((hL.out.bl hs.out).below hu) (hs.out.below hu) (by omega) (by omega)
  obtain ⟨nR, hnR⟩ : ∃ z, s.ram.length = z := ⟨_, rfl⟩
  obtain ⟨nO, hnO⟩ : ∃ z, s.rom.length = z := ⟨_, rfl⟩
  obtain ⟨n1, hn1⟩ : ∃ z, nR + 1 = z := ⟨_, rfl⟩
  obtain ⟨n2, hn2⟩ : ∃ z, nO + 1 = z := ⟨_, rfl⟩
  have fa : Hid (C[32]? = some (.slice sR nR cR) ∧ C[33]? = some (.slice sO nO cO) ∧ C.size = 35) := by
    rw [hC, hnR, hnO]
    exact ⟨rfl, rfl, rfl⟩
  have fb : Hid (C'[32]? = some (.slice (some ⟨b1, 0, none⟩) nR n1) ∧ C'[33]? = some (.slice (some ⟨b2, 0, none⟩) nO n2) ∧ C'.size = 35) := by
    rw [hL.out.c, hnR, hnO, hn1, hn2]
    exact ⟨rfl, rfl, rfl⟩
  have q1 : (nR : Int) + 1 = (n1 : Int) := by omega
  have q2 : (nO : Int) + 1 = (n2 : Int) := by omega
  have iR : (n1 : Int) ≤ 2147483648 := by omega
  have iO : (n2 : Int) ≤ 2147483648 := by omega
  have sl1 := slUp b1 nR n1 n1 (Nat.le_refl _) (by omega)
  have sl2 := slUp b2 nO n2 n2 (Nat.le_refl _) (by omega)
  have ix1 := fun v => idxB .i64 b1 0 n1 n1 nR v (by omega)
  have ix2 := fun v => idxB .i64 b2 0 n2 n2 nO v (by omega)
  simp only [Nat.zero_add] at ix1 ix2
  have K0 : Hid (Fm y [(y.heap.size, C', 34), (y.heap.size + 1, C, 34)] ((y.alloc (.cells C' 34)).alloc (.cells C 34))) := Fm.two y _ _ _ _
  have hBy : Hid (B ≤ y.heap.size) := hB
  have hsz : Hid (s.ram.length = nR ∧ s.rom.length = nO ∧ nR + 1 = n1 ∧ nO + 1 = n2) := ⟨hnR, hnO, hn1, hn2⟩
  clear hC hnR hnO hn1 hn2 h1 h2 hB
  go_enter Tryz.func8, Tryz.ntmps8
  go_upto_region 1 with (fail)
  generalize ((y.alloc (.cells C' 34)).alloc (.cells C 34)) = y0 at K0 ⊢
  have a32 := (K0.out.bx 0 _ _ _ rfl).c 32 _ fb.out.1
  have a33 := (K0.out.bx 0 _ _ _ rfl).c 33 _ fb.out.2.1
  have e32 := (K0.out.bx 1 _ _ _ rfl).c 32 _ fa.out.1
  have e33 := (K0.out.bx 1 _ _ _ rfl).c 33 _ fa.out.2.1
  go_upto_region 4 with (first
    | ((with_reducible refine at_load rtBd y.heap.size C' ?_ ?_ (.tmp 2) ?_ ?_ ?_ ?_); exact K0.out.bx 0 _ _ _ rfl; exact fb.out.2.2; kernel_rfl; rfl; rfl)
    | ((with_reducible refine at_load rtBd (y.heap.size + 1) C ?_ ?_ (.tmp 3) ?_ ?_ ?_ ?_); exact K0.out.bx 1 _ _ _ rfl; exact fa.out.2.2; kernel_rfl; rfl; rfl)
    | (go_at_call 13; refine (hSm.out y0 K0.out.low).mono ?_; rintro e y1 ⟨rfl, H⟩; have K1 : Hid (Fm y [(y.heap.size, C', 34), (y.heap.size + 1, C, 34)] y1) := K0.out.below H; have d32 := (K1.out.bx 1 _ _ _ rfl).c 32 _ fa.out.1; have d33 := (K1.out.bx 1 _ _ _ rfl).c 33 _ fa.out.2.1; have m1 := mark_at (hL.out.below K1.out.low).r hsz.out.1; have m2 := mark_at (hL.out.below K1.out.low).o hsz.out.2.1; rw [show byV 77 = .int .u8 77 from rfl] at m1; rw [show byV 78 = .int .u8 78 from rfl] at m2; clear H))
  have Q : Hid (Bk B b1 b2 n1 n2 y y1) := ⟨⟨K1.out.low.mono hBy.out, fun q hq _ _ => K1.out.low.block q hq⟩, ⟨_, (hL.out.below K1.out.low).r, by rw [List.size_toArray, rowL_len kByte.len, List.length_append]; have := hsz.out; simp; omega⟩, ⟨_, (hL.out.below K1.out.low).o, by rw [List.size_toArray, rowL_len kByte.len, List.length_append]; have := hsz.out; simp; omega⟩, hL.out.ge, hL.out.ne⟩
  clear K0 K1 a32 a33 e32 e33 d32 d33 m1 m2 ix1 ix2 sl1 sl2 q1 q2 hSm hL hs fa fb
  go_wp2
  go_loopw [8] (fun t wz => ∃ (i : Nat) (u : World), u = wz ∧ i ≤ n1 ∧ t = .int .i64 (i : Int) ∧ Hid (Bk B b1 b2 n1 n2 y u)) (fun t _ => (n1 - intOf t).toNat)
  case atStart => exact ⟨0, y1, rfl, Nat.zero_le _, rfl, Q⟩
  case round =>
    clear Q
    obtain ⟨i, u, rfl, hi, rfl, K⟩ := hrel
    by_cases hlt : i < n1
    · have hki : (i : Int) < (n1 : Int) := by omega
      have hlt' : Hid (i < n1) := hlt
      have ix := fun v => idxB .i64 b1 0 n1 n1 i v hlt
      simp only [Nat.zero_add] at ix
      obtain ⟨⟨x, k0⟩, z0⟩ := K.out.setAat i hlt
      have H : Hid (∀ v, Bk B b1 b2 n1 n2 y (u.setCell ⟨b1, i, none⟩ v)) := fun v => K.out.setA i v
      clear hi hlt
      go_wp2
      go_roundw
      case rel => exact ⟨i + 1, _, rfl, hlt'.out, by simp, H.out _⟩
      case measure => have := hlt'.out; simp [intOf]; omega
    · have hie : i = n1 := by omega
      subst i
      clear hi hlt
      go_wp2
      go_loopw [9] (fun t wz => ∃ (i : Nat) (u : World), u = wz ∧ i ≤ n2 ∧ t = .int .i64 (i : Int) ∧ Hid (Bk B b1 b2 n1 n2 y u)) (fun t _ => (n2 - intOf t).toNat)
      case atStart => exact ⟨0, u, rfl, Nat.zero_le _, rfl, K⟩
      case round =>
        clear K
        obtain ⟨i, u, rfl, hi, rfl, K⟩ := hrel
        by_cases hlt : i < n2
        · have hki : (i : Int) < (n2 : Int) := by omega
          have hlt' : Hid (i < n2) := hlt
          have ix := fun v => idxB .i64 b2 0 n2 n2 i v hlt
          simp only [Nat.zero_add] at ix
          obtain ⟨⟨x, k0⟩, z0⟩ := K.out.setBat i hlt
          have H : Hid (∀ v, Bk B b1 b2 n1 n2 y (u.setCell ⟨b2, i, none⟩ v)) := fun v => K.out.setB i v
          clear hi hlt
          go_wp2
          go_roundw
          case rel => exact ⟨i + 1, _, rfl, hlt'.out, by simp, H.out _⟩
          case measure => have := hlt'.out; simp [intOf]; omega
        · have hie : i = n2 := by omega
          subst i
          clear hi hlt
          go_wp2
          go_ret
          exact ⟨rfl, K.out.wr⟩
end Go.Proofs.YtehnhjdjjalifaaGreatDoor

namespace Go.Proofs.YtehnhjdjjalifaaGreatDoor
open Go Go.RowKit Go.Shelf
set_option linter.unusedVariables false
set_option maxHeartbeats 4000000
set_option maxRecDepth 20000

/-- What is saved is the same bytes on both sides, or none on both. -/
theorem save_uni (w : World) (tb : Hid (Tbs w)) (s : Bd) (ok : s.Ok) (hR : (s.ram.length : Int) ≤ 9223372036854775807) (hO : (s.rom.length : Int) ≤ 9223372036854775807) : ∃ (P : List UInt8) (E : Int), P.length ≤ 70000 ∧
    (∀ y M, Below w.heap.size w y → BL y M s → Calls Tryz.prog 7 #[.agg M] y fun e w' => ∃ sp cap, e = .returned (.tuple #[.slice sp P.length cap, .int .i64 E]) ∧ Hid (Below y.heap.size y w' ∧ OwnL 5 1 cB y.heap.size w' (.slice sp P.length cap) P)) ∧
    (∀ y M, Below w.heap.size w y → BL y M s → Calls Tryz.prog 9 #[.agg M] y fun e w' => ∃ sp cap, e = .returned (.tuple #[.slice sp P.length cap, .int .i64 E]) ∧ Hid (Below y.heap.size y w' ∧ OwnL 5 1 cB y.heap.size w' (.slice sp P.length cap) P)) := by
  have key : ∃ (P : List UInt8) (E : Int), P.length ≤ 70000 ∧ ∀ (y : World) (e : Ending) (w' : World), SvE y s e w' → ∃ sp cap, e = .returned (.tuple #[.slice sp P.length cap, .int .i64 E]) ∧ Hid (Below y.heap.size y w' ∧ OwnL 5 1 cB y.heap.size w' (.slice sp P.length cap) P) := by
    by_cases h : chkB s = 0
    · have hf := (chk_fit ok h).1
      refine ⟨savB s, 0, by rw [sav_len s ok.r, hf.rom]; have := hf.ram; omega, fun y e w' k => ?_⟩
      rcases k with ⟨_, v, e1, k⟩ | ⟨k, _⟩
      · obtain ⟨sp, cap, hv, _⟩ := k.out.own.open kByte.len
        subst hv
        exact ⟨sp, cap, e1, k.out.low, k.out.own⟩
      · exact absurd h k
    · refine ⟨[], 212, by decide, fun y e w' k => ?_⟩
      rcases k with ⟨k, _⟩ | ⟨_, e1, k⟩
      · exact absurd k h
      · exact ⟨none, 0, e1, k.out, OwnL.nil _ _⟩
  obtain ⟨P, E, hP, k⟩ := key
  exact ⟨P, E, hP, fun y M hy hM => (psave_any y (tb.out.below hy) M s hM).mono (k y), fun y M hy hM => (rsave_any y M s hM hR hO).mono (k y)⟩
/-- A row that is not empty begins somewhere. -/
theorem own_some {B : Nat} {w : World} {sp : Option Addr} {n cap : Nat} {l : List UInt8} (h : OwnL 5 1 cB B w (.slice sp n cap) l) (hl : 0 < l.length) : ∃ g, sp = some ⟨g, 0, none⟩ := by
  rcases h.2 with ⟨e, h0⟩ | ⟨g, k, cur, e, _⟩
  · omega
  · injection e with e _ _
    exact ⟨g, e⟩
theorem own_lies {B : Nat} {w : World} {sp : Option Addr} {n cap : Nat} {l : List UInt8} (h : OwnL 5 1 cB B w (.slice sp n cap) l) : LB w sp l ∧ l.length = n ∧ n ≤ cap := by
  obtain ⟨s1, k1, e, hl, _, _, hc⟩ := h.open kByte.len
  injection e with e1 e2 e3
  subst e1
  subst e3
  exact ⟨hl, e2.symm, by rw [e2]; exact hc⟩
theorem saves_big (w : World) (C : Array Value) (s : Bd) (hs : Hid (BL w C s)) (hR : (s.ram.length : Int) ≤ 9223372036854775807) (hO : (s.rom.length : Int) ≤ 9223372036854775807) (h : 2147483647 < s.ram.length ∨ 2147483647 < s.rom.length) :
    Calls Tryz.prog 3 #[.agg C] w fun e w' => e = .returned (.bool true) ∧ Below w.heap.size w w' := by
  obtain ⟨sR, cR, sO, cO, hCe, _, _⟩ := hs.out.c
  have hfC : Hid (C.size = 35 ∧ C.all (·.oneCell') = true) := BL.facts hs.out
  obtain ⟨nR, hnR⟩ : ∃ z, s.ram.length = z := ⟨_, rfl⟩
  obtain ⟨nO, hnO⟩ : ∃ z, s.rom.length = z := ⟨_, rfl⟩
  have hc : Hid (C[32]? = some (.slice sR nR cR) ∧ C[33]? = some (.slice sO nO cO)) := by
    rw [hCe, hnR, hnO]
    exact ⟨rfl, rfl⟩
  rw [hnR] at hR
  rw [hnO] at hO
  rw [hnR, hnO] at h
  clear hCe hs hfC hnR hnO
  by_cases h1 : 2147483647 < nR
  · have d1 : decide ((2147483647 : Int) < (nR : Int)) = true := decide_eq_true (by omega)
    have d1' : decide (2147483647 < nR) = true := decide_eq_true (by omega)
    clear h h1
    go_enter Tryz.func3, Tryz.ntmps3
    go_wp2_with ((with_reducible refine gen_world (w.alloc (.cells C 34)) (Fm w [(w.heap.size, C, 34)]) ?_ ?_); exact Fm.one w _ _; intro y0 K0; have c32 := (K0.out.bx 0 _ _ _ rfl).c 32 _ hc.out.1; have c33 := (K0.out.bx 0 _ _ _ rfl).c 33 _ hc.out.2)
    go_ret
    exact ⟨rfl, K0.out.low⟩
  · have h2 : 2147483647 < nO := by omega
    have d1 : decide ((2147483647 : Int) < (nR : Int)) = false := decide_eq_false (by omega)
    have d1' : decide (2147483647 < nR) = false := decide_eq_false (by omega)
    have d2 : decide ((2147483647 : Int) < (nO : Int)) = true := decide_eq_true (by omega)
    have d2' : decide (2147483647 < nO) = true := decide_eq_true (by omega)
    clear h h1 h2
    go_enter Tryz.func3, Tryz.ntmps3
    go_wp2_with ((with_reducible refine gen_world (w.alloc (.cells C 34)) (Fm w [(w.heap.size, C, 34)]) ?_ ?_); exact Fm.one w _ _; intro y0 K0; have c32 := (K0.out.bx 0 _ _ _ rfl).c 32 _ hc.out.1; have c33 := (K0.out.bx 0 _ _ _ rfl).c 33 _ hc.out.2)
    go_ret
    exact ⟨rfl, K0.out.low⟩
theorem saves_go (w : World) (tb : Hid (Tbs w)) (C : Array Value) (s : Bd) (hs : Hid (BL w C s)) (hR : (s.ram.length : Int) ≤ 9223372036854775807) (hO : (s.rom.length : Int) ≤ 9223372036854775807) (h1 : s.ram.length ≤ 2147483647) (h2 : s.rom.length ≤ 2147483647) :
    Calls Tryz.prog 3 #[.agg C] w fun e w' => e = .returned (.bool true) ∧ Below w.heap.size w w' := by
  have hAw : Hid (∀ y, Below w.heap.size w y → Calls Tryz.prog 10 #[] y fun e w' => e = .returned (.bool true) ∧ Below y.heap.size y w') := fun y hy => awake_any y (tb.out.below hy)
  obtain ⟨P, E, hP7, hSv', hRs'⟩ := save_uni w tb s hs.out.ok hR hO
  have hLt : Hid (∀ y, Below w.heap.size w y → Calls Tryz.prog 6 #[.agg C] y fun e w' => ∃ C' b1 b2, e = .returned (.agg C') ∧ Hid (LM y.heap.size w' C' s b1 b2 ∧ Below y.heap.size y w')) := fun y hy => lent21_any y C s (hs.out.below hy) h1 h2
  have hBk : Hid (∀ y B C' b1 b2, Below w.heap.size w y → LM B y C' s b1 b2 → B ≤ y.heap.size → Calls Tryz.prog 8 #[.agg C', .agg C] y fun e w' => e = .returned (.bool true) ∧ Hid (Wr B b1 b2 y w')) := fun y B C' b1 b2 hy hL hB => back21_any y B C' C s b1 b2 hL (hs.out.below hy) h1 h2 hB
  obtain ⟨nP, hnP⟩ : ∃ z, P.length = z := ⟨_, rfl⟩
  rw [hnP] at hSv' hRs' hP7
  have hSv : Hid _ := hSv'
  have hRs : Hid _ := hRs'
  obtain ⟨S, hS⟩ : ∃ z : ByteArray, ⟨P.toArray⟩ = z := ⟨_, rfl⟩
  have hcv : Hid (∀ y B sp cap, OwnL 5 1 cB B y (.slice sp nP cap) P → (convert 31 9 (.slice sp nP cap)).run Tryz.prog y = .ok (.string S) y) := fun y B sp cap h => by
    have := conv21 (own_lies h).1 cap
    rw [hnP, hS] at this
    exact this
  have hsB : Hid (BL w C s) := hs
  have qE : (E != E) = false := by simp
  have nn : Hid (P.length = nP) := hnP
  have iP : (nP : Int) ≤ 70000 := by omega
  obtain ⟨sR, cR, sO, cO, hCe, _, _⟩ := hs.out.c
  have hfC : Hid (C.size = 35 ∧ C.all (·.oneCell') = true) := BL.facts hs.out
  obtain ⟨nR, hnR⟩ : ∃ z, s.ram.length = z := ⟨_, rfl⟩
  obtain ⟨nO, hnO⟩ : ∃ z, s.rom.length = z := ⟨_, rfl⟩
  have hc : Hid (C[32]? = some (.slice sR nR cR) ∧ C[33]? = some (.slice sO nO cO)) := by
    rw [hCe, hnR, hnO]
    exact ⟨rfl, rfl⟩
  rw [hnR] at hR
  rw [hnO] at hO
  rw [hnR] at h1
  rw [hnO] at h2
  have d1 : decide ((2147483647 : Int) < (nR : Int)) = false := decide_eq_false (by omega)
  have d1' : decide (2147483647 < nR) = false := decide_eq_false (by omega)
  have d2 : decide ((2147483647 : Int) < (nO : Int)) = false := decide_eq_false (by omega)
  have d2' : decide (2147483647 < nO) = false := decide_eq_false (by omega)
  clear tb hs hR hO hCe hnR hnO h1 h2 hS hSv' hRs' hnP hP7
  go_enter Tryz.func3, Tryz.ntmps3
  go_upto_region 4 with (first
    | ((with_reducible refine at_load rtBd w.heap.size C ?_ ?_ (.tmp 1) ?_ ?_ ?_ ?_); exact K0.out.bx 0 _ _ _ rfl; exact hfC.out.1; kernel_rfl; rfl; rfl)
    | (go_at_call 6; refine (hLt.out y0 K0.out.low).mono ?_; rintro e y1 ⟨C', b1, b2, rfl, H⟩; have K1 : Hid (Fm w [(w.heap.size, C, 34)] y1 ∧ LM y0.heap.size y1 C' s b1 b2 ∧ Below y0.heap.size y0 y1) := ⟨K0.out.below H.out.2, H.out.1, H.out.2⟩; have hf' : Hid (C'.size = 35 ∧ C'.all (·.oneCell') = true) := (by have := BL.facts (H.out.1.bl hsB.out); exact this); clear H)
    | ((with_reducible refine gen_world (y1.alloc (.cells #[.int .u16 0, .int .u16 0, .int .u16 0, .int .u16 0, .int .u16 0, .int .u16 0, .int .u16 0, .int .u16 0, .int .u16 0, .int .u16 0, .int .u16 0, .int .u16 0, .int .u16 0, .int .u16 0, .int .u16 0, .int .u16 0, .int .u8 0, .bool false, .int .u8 0, .int .u8 0, .int .u8 0, .bool false, .bool false, .int .u8 0, .int .u8 0, .int .u8 0, .int .i64 0, .int .i64 0, .bool false, .int .i64 0, .int .u8 0, .bool false, .slice none 0 0, .slice none 0 0, .int .u64 0] 34)) (fun z => Fm w [(w.heap.size, C, 34), (y1.heap.size, zBd, 34)] z ∧ Below y1.heap.size y1 z) ?_ ?_); exact ⟨K1.out.1.new _ _, below1 y1 _⟩; intro y2 K2)
    | ((with_reducible refine at_st rtBd y1.heap.size zBd C' ?_ ?_ ?_ ?_ (.tmp 3) (.tmp 24) ?_ ?_ ?_ ?_ ?_); exact K2.out.1.bx 1 _ _ _ rfl; rfl; exact hf'.out.1; exact hf'.out.2; rfl; rfl; rfl; rfl; intro y3 h3; have K3 : Hid (Ry w [(w.heap.size, C), (y1.heap.size, C')] [] y3 ∧ LM y0.heap.size y3 C' s b1 b2 ∧ y0.heap.size ≤ y3.heap.size ∧ w.heap.size ≤ y0.heap.size) := (by have b23 := K2.out.2.trans (h3.out.2.1 _ (Nat.le_refl _)); exact ⟨((Ry.nil w).box (b := w.heap.size) (cs := C) (K0.out.low) (K0.out.bx 0 _ _ _ rfl) |>.below (K1.out.2.2)).box (b := y1.heap.size) (cs := C') b23 h3.out.1, K1.out.2.1.below b23, Nat.le_trans K1.out.2.2.size b23.size, K0.out.low.size⟩); clear h3)
    | ((with_reducible refine gen_world (w.alloc (.cells C 34)) (Fm w [(w.heap.size, C, 34)]) ?_ ?_); exact Fm.one w _ _; intro y0 K0; have c32 := (K0.out.bx 0 _ _ _ rfl).c 32 _ hc.out.1; have c33 := (K0.out.bx 0 _ _ _ rfl).c 33 _ hc.out.2))
  generalize y1.heap.size = c3 at K3 ⊢
  generalize y0.heap.size = B0 at K3
  clear K2 K1 K0 c32 c33 hLt
  go_upto_region 5 with (first
    | ((with_reducible refine at_load rtBd c3 C' ?_ ?_ (.tmp 3) ?_ ?_ ?_ ?_); exact K3.out.1.bx 1 _ _ rfl; exact hf'.out.1; kernel_rfl; rfl; rfl)
    | (go_at_call 7; refine (hSv.out y3 C' K3.out.1.low (K3.out.2.1.bl hsB.out)).mono ?_; rintro e y4 ⟨sP, kP, rfl, H⟩; have K4 : Hid (Ry w [(w.heap.size, C), (c3, C')] [(.slice sP nP kP, P)] y4 ∧ LM B0 y4 C' s b1 b2 ∧ B0 ≤ y4.heap.size ∧ w.heap.size ≤ B0 ∧ ∀ g, (Value.slice sP nP kP).ownBlock = some g → g ≠ b1 ∧ g ≠ b2) := ⟨K3.out.1.row H.out.1 H.out.2, K3.out.2.1.below H.out.1, Nat.le_trans K3.out.2.2.1 H.out.1.size, K3.out.2.2.2, fun g hg => (by have h1 := (H.out.2.lt g hg).1; have h2 := heap_lt K3.out.2.1.r; have h3 := heap_lt K3.out.2.1.o; omega)⟩; clear H))
  go_upto_region 7 with (first
    | ((with_reducible refine at_load rtBd c3 C' ?_ ?_ (.tmp 3) ?_ ?_ ?_ ?_); exact K4.out.1.bx 1 _ _ rfl; exact hf'.out.1; kernel_rfl; rfl; rfl)
    | ((with_reducible refine at_load rtBd w.heap.size C ?_ ?_ (.tmp 1) ?_ ?_ ?_ ?_); exact K4.out.1.bx 0 _ _ rfl; exact hfC.out.1; kernel_rfl; rfl; rfl)
    | (go_at_call 8; refine (hBk.out y4 B0 C' b1 b2 K4.out.1.low K4.out.2.1 K4.out.2.2.1).mono ?_; rintro e y5 ⟨rfl, H⟩; have K5 : Hid (Ry w [(w.heap.size, C), (c3, C')] [(.slice sP nP kP, P)] y5) := K4.out.1.wr H.out K4.out.2.2.2.1 ⟨_, K4.out.2.1.r⟩ ⟨_, K4.out.2.1.o⟩ (fun i v l g e hg => (by have hi := (List.getElem?_eq_some_iff.1 e).1; have hi0 : i = 0 := (by simp at hi; omega); subst hi0; cases e; exact K4.out.2.2.2.2 g hg)); clear H))
  clear K4 K3 hBk
  go_upto_region 8 with (first
    | ((with_reducible refine at_load rtBd w.heap.size C ?_ ?_ (.tmp 1) ?_ ?_ ?_ ?_); exact K5.out.bx 0 _ _ rfl; exact hfC.out.1; kernel_rfl; rfl; rfl)
    | (go_at_call 7; refine (hSv.out y5 C K5.out.low (hsB.out.below K5.out.low)).mono ?_; rintro e y6 ⟨sQ, kQ, rfl, H⟩; have K6 : Hid (Ry w [(w.heap.size, C), (c3, C')] [(.slice sP nP kP, P), (.slice sQ nP kQ, P)] y6) := K5.out.row H.out.1 H.out.2; clear H))
  go_upto_region 9 with (first
    | ((with_reducible refine at_load rtBd w.heap.size C ?_ ?_ (.tmp 1) ?_ ?_ ?_ ?_); exact K6.out.bx 0 _ _ rfl; exact hfC.out.1; kernel_rfl; rfl; rfl)
    | (go_at_call 9; refine (hRs.out y6 C K6.out.low (hsB.out.below K6.out.low)).mono ?_; rintro e y7 ⟨sU, kU, rfl, H⟩; have K7 : Hid (Ry w [(w.heap.size, C), (c3, C')] [(.slice sP nP kP, P), (.slice sQ nP kQ, P), (.slice sU nP kU, P)] y7) := K6.out.row H.out.1 H.out.2; clear H))
  clear K5 K6 hSv hRs
  have v1 := hcv.out y7 _ _ _ (K7.out.own 0 _ _ rfl)
  have v2 := hcv.out y7 _ _ _ (K7.out.own 1 _ _ rfl)
  have v3 := hcv.out y7 _ _ _ (K7.out.own 2 _ _ rfl)
  go_wp2
  clear v1 v2 v3
  go_loopw [10] (fun t wz => ∃ (i : Nat) (l : List UInt8) (u : World), u = wz ∧ i ≤ nP ∧ t = .int .i64 (i : Int) ∧ Hid (Ry w [(w.heap.size, C), (c3, C')] [(.slice sP nP kP, l), (.slice sQ nP kQ, P), (.slice sU nP kU, P)] u ∧ l.length = nP)) (fun t _ => (nP - intOf t).toNat)
  case atStart => exact ⟨0, P, y7, rfl, Nat.zero_le _, rfl, K7, nn.out⟩
  case round =>
    obtain ⟨i, l, u, rfl, hi, rfl, K⟩ := hrel
    clear K7
    by_cases hlt : i < nP
    · have hki : (i : Int) < (nP : Int) := by omega
      have hlt' : Hid (i < nP) := hlt
      obtain ⟨gP, rfl⟩ := own_some (K.out.1.own 0 _ _ rfl) (by have := K.out.2; omega)
      have ix := fun v => idxB .i64 gP 0 nP kP i v hlt
      simp only [Nat.zero_add] at ix
      obtain ⟨H, ⟨x, k0⟩, z0⟩ := K.out.1.set 0 gP nP kP l rfl i (by have := K.out.2; omega) 7
      have H' : Hid (Ry w [(w.heap.size, C), (c3, C')] [(.slice (some ⟨gP, 0, none⟩) nP kP, l.set i 7), (.slice sQ nP kQ, P), (.slice sU nP kU, P)] (u.setCell ⟨gP, i, none⟩ (.int .u8 7)) ∧ (l.set i 7).length = nP) := ⟨H, by rw [List.length_set]; exact K.out.2⟩
      clear hi hlt H K
      go_wp2
      go_roundw
      case rel => exact ⟨i + 1, _, _, rfl, hlt'.out, by simp, H'⟩
      case measure => have := hlt'.out; simp [intOf]; omega
    · have hie : i = nP := by omega
      subst i
      clear hi hlt
      have K8 : Hid (Ry w [(w.heap.size, C), (c3, C')] [(.slice sP nP kP, l), (.slice sQ nP kQ, P), (.slice sU nP kU, P)] u ∧ l.length = nP + 0) := K
      clear K
      go_wp2
      go_loopw [11, 12] (fun vc t wz => ∃ (k : Nat) (l : List UInt8) (u : World), u = wz ∧ k ≤ 40 ∧ t = .int .i64 (k : Int) ∧ Hid (Ry w [(w.heap.size, C), (c3, C')] [(vc, l), (.slice sQ nP kQ, P), (.slice sU nP kU, P)] u ∧ l.length = nP + k)) (fun _ t _ => (40 - intOf t).toNat)
      case atStart => exact ⟨0, l, u, rfl, Nat.zero_le _, rfl, K8⟩
      case round =>
        obtain ⟨k, l9, u9, rfl, hk, rfl, K⟩ := hrel
        clear K8
        by_cases hlt : k < 40
        · have hki : (k : Int) < 40 := by omega
          have hlt' : Hid (k < 40) := hlt
          have hl9 : Hid (l9.length ≤ 100000000000) := by show _ ≤ _; rw [K.out.2]; omega
          have e8 : Hid ((cB 8).toArray = #[.int .u8 8]) := by show _ = _; rfl
          clear hk hlt
          go_wp2_with (at_builtin; refine at_appL kByte rfl (.tmp 80) (.tmp 81) rfl w.heap.size _ l9 rfl ((K.out.1.own 0 _ _ rfl).alloc _) u9.heap.size 8 rfl ?_ ?_ ?_ ?_; (rw [e8.out]; exact one_bxL u9 _ _); exact hl9.out; (have := K.out.1.low.size; simp [World.size_alloc]; omega); intro v2 z2 A; have N2 : Hid (Ry w [(w.heap.size, C), (c3, C')] [(v2, l9 ++ [8]), (.slice sQ nP kQ, P), (.slice sU nP kU, P)] z2 ∧ (l9 ++ [8]).length = nP + (k + 1)) := ⟨K.out.1.add 0 _ _ rfl 8 v2 _ A.out, by rw [List.length_append, K.out.2]; rfl⟩; clear A)
          go_roundw
          case rel => exact ⟨k + 1, _, _, rfl, hlt'.out, by simp, N2⟩
          case measure => have := hlt'.out; simp [intOf]; omega
        · have hke : k = 40 := by omega
          subst k
          clear hk hlt
          obtain ⟨sC, kC, hvc, _⟩ := (K.out.1.own 0 _ _ rfl).open kByte.len
          rw [K.out.2] at hvc
          subst hvc
          have v2 := hcv.out u9 _ _ _ (K.out.1.own 1 _ _ rfl)
          have v3 := hcv.out u9 _ _ _ (K.out.1.own 2 _ _ rfl)
          go_wp2_with (go_at_call 10; refine (hAw.out u9 K.out.1.low).mono ?_; rintro e z9 ⟨rfl, H⟩; have N9 : Hid (Below w.heap.size w z9) := K.out.1.low.trans (H.mono K.out.1.low.size); clear H)
          go_ret
          exact ⟨rfl, N9.out⟩
theorem saves_walk (w : World) (tb : Hid (Tbs w)) (C : Array Value) (s : Bd) (hs : Hid (BL w C s)) (hR : (s.ram.length : Int) ≤ 9223372036854775807) (hO : (s.rom.length : Int) ≤ 9223372036854775807) :
    Calls Tryz.prog 3 #[.agg C] w fun e w' => e = .returned (.bool true) ∧ Below w.heap.size w w' := by
  by_cases h1 : s.ram.length ≤ 2147483647
  · by_cases h2 : s.rom.length ≤ 2147483647
    · exact saves_go w tb C s hs hR hO h1 h2
    · exact saves_big w C s hs hR hO (by omega)
  · exact saves_big w C s hs hR hO (by omega)
end Go.Proofs.YtehnhjdjjalifaaGreatDoor
