/- The record that begins at a place, with a port and an address of its own. -/
import Derived.Test.YtoajmicdphffnaaDoorKn
namespace Go.Proofs.YtoajmicdphffnaaDoor
open Go Go.RowKit
set_option linter.unusedVariables false
set_option maxHeartbeats 20000000
set_option maxRecDepth 20000

theorem rrec1_far (w : World) (sp : Option Addr) (cap : Nat) (l : List UInt8) (at' : Nat) (next : Int) (hl : Hid (LiesB w sp l)) (hn : l.length ≤ 4611686018427387904) (ha : at' ≤ l.length) (n0 : 0 ≤ next) (n1 : next ≤ 65535) (x : UInt8) (hx : l[at']? = some x) (h128 : 128 ≤ x.toNat) (hlong : at' + 5 ≤ l.length) :
    Calls Tryd.prog 48 #[.slice sp l.length cap, .int .i64 (at' : Int), .int .u16 next] w fun e w' => ∃ s', e = .returned (.tuple #[.agg (rcC s'), .int .i64 (oneK (oneR (l.drop at') next))]) ∧ Hid ((∀ r k, oneR (l.drop at') next = some (r, k) → s' = r) ∧ Below w.heap.size w w') := by
  have zz := zeroV_R
  have hF : Hid (Fm w [(w.heap.size, rcC zR, 45)] (w.alloc (.cells (rcC zR) 45))) := Fm.one w _ _
  have hb0 : Hid (Tryd.prog.built 45 [] = some (rcC zR)) := built0
  obtain ⟨n, hn'⟩ : ∃ n, l.length = n := ⟨_, rfl⟩
  rw [hn'] at hn ha hlong ⊢
  have hnn : Hid (l.length = n) := hn'
  have ni : (n : Int) ≤ 4611686018427387904 := by omega
  have ai : (at' : Int) ≤ n := by omega
  have hlt : at' < n := by omega
  have q0 : decide ((n : Int) ≤ at') = false := by simp; omega
  have hdx : l.drop at' = x :: l.drop (at' + 1) := by
    obtain ⟨x', h1, h2⟩ := get_drop (show at' < l.length by omega)
    rw [hx] at h1
    cases h1
    exact h2
  obtain ⟨g, o, rfl, cx⟩ := hl.out at' x hx
  have ix := idxB g o n cap at' hlt
  obtain ⟨h, hh⟩ : ∃ h : Int, (x.toNat : Int) = h := ⟨_, rfl⟩
  have hb : h ≤ 255 ∧ 0 ≤ h := by have := UInt8.toNat_lt x; omega
  obtain ⟨hb1, hb2⟩ := hb
  have cx' : Hid (∀ z, Below w.heap.size w z → z.cell? ⟨g, o + at', none⟩ = some (.int .u8 h)) := fun z hz => by
    rw [← hh]
    exact (hz.cell (p := ⟨g, o + at', none⟩) (World.block_lt_of_cell? w _ cx)).trans cx
  have ati : (at' : Int) < n := by omega
  replace hx : Hid _ := hx
  replace hh : Hid _ := hh
  obtain ⟨B3, hB3⟩ : ∃ b, (h / 4 % 2 == 1) = b := ⟨_, rfl⟩
  obtain ⟨B4, hB4⟩ : ∃ b, (h / 8 % 2 == 1) = b := ⟨_, rfl⟩
  obtain ⟨B6, hB6⟩ : ∃ b, (h / 16 % 2 == 1) = b := ⟨_, rfl⟩
  have hrH : Hid (∀ p a d, recH h p a d = ⟨h % 4, a, d, B3, B4, p, B6, h / 32 % 4⟩) := fun p a d => by
    unfold recH
    rw [← hB3, ← hB4, ← hB6]
    congr 1 <;> rw [Bool.eq_iff_iff] <;> simp
  clear cx hlt hn'
  have hbig : 128 ≤ h := by have := hh.out; omega
  have qb : decide (128 ≤ h) = true := by simpa using hbig
  have qs : decide ((n : Int) - at' < 5) = false := by simp; omega
  obtain ⟨p, hp, hdp⟩ := get_drop (show at' + 1 < l.length by rw [hnn.out]; omega)
  obtain ⟨a, haa, hda⟩ := get_drop (show at' + 1 + 1 < l.length by rw [hnn.out]; omega)
  obtain ⟨b, hbb, hdb⟩ := get_drop (show at' + 1 + 1 + 1 < l.length by rw [hnn.out]; omega)
  obtain ⟨d, hd, hdd⟩ := get_drop (show at' + 1 + 1 + 1 + 1 < l.length by rw [hnn.out]; omega)
  have hone : Hid (oneR (l.drop at') next = if okH (recH h p.toNat ((a.toNat : Int) + 256 * b.toNat) d.toNat) next h then some (recH h p.toNat ((a.toNat : Int) + 256 * b.toNat) d.toNat, 5) else none) := by
    show _ = _
    rw [hdx, hdp, hda, hdb, hdd]
    simp only [oneR]
    rw [if_pos (by have := hh.out; omega), hh.out]
  obtain ⟨g', o', e', cp⟩ := hl.out _ p hp
  cases e'
  obtain ⟨g', o', e', ca⟩ := hl.out _ a haa
  cases e'
  obtain ⟨g', o', e', cb⟩ := hl.out _ b hbb
  cases e'
  obtain ⟨g', o', e', cd⟩ := hl.out _ d hd
  cases e'
  have ip : ∀ v, (Instr.indexAt 34 (.slice (some ⟨g, o, none⟩) n cap) (.int .i64 ((at' : Int) + 1))).run Tryd.prog v = .ok (.pointer (some ⟨g, o + (at' + 1), none⟩)) v := fun v => idxB g o n cap (at' + 1) (by omega) v
  have ia : ∀ v, (Instr.indexAt 34 (.slice (some ⟨g, o, none⟩) n cap) (.int .i64 ((at' : Int) + 2))).run Tryd.prog v = .ok (.pointer (some ⟨g, o + (at' + 1 + 1), none⟩)) v := fun v => idxB g o n cap (at' + 2) (by omega) v
  have ib : ∀ v, (Instr.indexAt 34 (.slice (some ⟨g, o, none⟩) n cap) (.int .i64 ((at' : Int) + 3))).run Tryd.prog v = .ok (.pointer (some ⟨g, o + (at' + 1 + 1 + 1), none⟩)) v := fun v => idxB g o n cap (at' + 3) (by omega) v
  have id4 : ∀ v, (Instr.indexAt 34 (.slice (some ⟨g, o, none⟩) n cap) (.int .i64 ((at' : Int) + 4))).run Tryd.prog v = .ok (.pointer (some ⟨g, o + (at' + 1 + 1 + 1 + 1), none⟩)) v := fun v => idxB g o n cap (at' + 4) (by omega) v
  have bx : ∀ b : UInt8, (b.toNat : Int) ≤ 255 ∧ 0 ≤ (b.toNat : Int) := fun b => by have := UInt8.toNat_lt b; omega
  obtain ⟨bp1, bp0⟩ := bx p
  obtain ⟨ba1, ba0⟩ := bx a
  obtain ⟨bb1, bb0⟩ := bx b
  obtain ⟨bd1, bd0⟩ := bx d
  obtain ⟨P, hP⟩ : ∃ h : Int, (p.toNat : Int) = h := ⟨_, rfl⟩
  obtain ⟨A, hA⟩ : ∃ h : Int, (a.toNat : Int) = h := ⟨_, rfl⟩
  obtain ⟨B, hB⟩ : ∃ h : Int, (b.toNat : Int) = h := ⟨_, rfl⟩
  obtain ⟨D, hD⟩ : ∃ h : Int, (d.toNat : Int) = h := ⟨_, rfl⟩
  have cells : Hid (∀ z, Below w.heap.size w z → z.cell? ⟨g, o + (at' + 1), none⟩ = some (.int .u8 P) ∧ z.cell? ⟨g, o + (at' + 1 + 1), none⟩ = some (.int .u8 A) ∧ z.cell? ⟨g, o + (at' + 1 + 1 + 1), none⟩ = some (.int .u8 B) ∧ z.cell? ⟨g, o + (at' + 1 + 1 + 1 + 1), none⟩ = some (.int .u8 D)) := fun z hz => by
    rw [← hP, ← hA, ← hB, ← hD]
    exact ⟨(hz.cell (World.block_lt_of_cell? w _ cp)).trans cp, (hz.cell (World.block_lt_of_cell? w _ ca)).trans ca, (hz.cell (World.block_lt_of_cell? w _ cb)).trans cb, (hz.cell (World.block_lt_of_cell? w _ cd)).trans cd⟩
  rw [hP, hA, hB, hD] at hone
  rw [hP] at bp1 bp0
  rw [hA] at ba1 ba0
  rw [hB] at bb1 bb0
  rw [hD] at bd1 bd0
  have hRe : Hid (recH h P (A + 256 * B) D = ⟨h % 4, A + 256 * B, D, B3, B4, P, B6, h / 32 % 4⟩) := hrH.out _ _ _
  have hRr : Hid (Rr ⟨h % 4, A + 256 * B, D, B3, B4, P, B6, h / 32 % 4⟩) := by rw [← hRe.out]; exact recH_range _ _ _ _ bp0 bp1 (by omega) (by omega) bd0 bd1
  have hb7 : Hid _ := built7 (h % 4) next D B3 B4 B6 (h / 32 % 4)
  clear hP hA hB hD cp ca cb cd hp haa hbb hd hdp hda hdb hdd hdx bx hbig ha h128
  go_enter Tryd.func48, Tryd.ntmps48
  go_wp2_with (first
    | ((with_reducible refine gen_world (w.alloc (.cells (rcC zR) 45)) (Fm w [(w.heap.size, rcC zR, 45)]) hF.out ?_); intro y0 K0; have cxx := cx'.out y0 K0.out.low; have cdd := (cells.out y0 K0.out.low).2.2.2)
    | ((with_reducible refine at_bu #[(0, .tmp 31), (3, .tmp 35), (4, .tmp 39), (6, .tmp 43), (7, .tmp 46), (1, .tmp 47), (2, .tmp 54)] [(0, .int .u8 (h % 4)), (3, .bool B3), (4, .bool B4), (6, .bool B6), (7, .int .u8 (h / 32 % 4)), (1, .int .u16 next), (2, .int .u8 D)] (rcC ⟨h % 4, next, D, B3, B4, 0, B6, h / 32 % 4⟩) ?_ ?_ ?_ hb7.out ?_); kernel_rfl; rfl; (simp only [List.map_toArray, List.map_cons, List.map_nil]; rfl))
    | ((with_reducible refine gen_world (y0.alloc (.cells (rcC zR) 45)) (Fm w [(w.heap.size, rcC zR, 45), (y0.heap.size, rcC zR, 45)]) ?_ ?_); exact K0.out.new _ _; intro y3 K3)
    | ((with_reducible refine at_st rtR y0.heap.size (rcC zR) (rcC ⟨h % 4, next, D, B3, B4, 0, B6, h / 32 % 4⟩) ?_ ?_ ?_ ?_ (.tmp 10) (.tmp 55) ?_ ?_ ?_ ?_ ?_); exact K3.out.bx 1 _ _ _ rfl; rfl; rfl; exact rcC_one _; rfl; rfl; rfl; rfl; intro y4 hw4; have K4 : Hid (Fm w [(w.heap.size, rcC zR, 45), (y0.heap.size, rcC ⟨h % 4, next, D, B3, B4, 0, B6, h / 32 % 4⟩, 45)] y4) := K3.out.put 1 _ _ _ _ rfl hw4.out; have cpp := (cells.out y4 K4.out.low).1; have dd4 := (K4.out.bx 1 _ _ _ rfl).c 5 _ (rcC_po _); have zz4 := (K4.out.bx 1 _ _ _ rfl).fz 5))
  have K5 : Hid (Fm w [(w.heap.size, rcC zR, 45), (y0.heap.size, rcC ⟨h % 4, next, D, B3, B4, P, B6, h / 32 % 4⟩, 45)] (y4.setCell ⟨y0.heap.size, 5, none⟩ (.int .u8 P))) := K4.out.setCell 1 _ _ _ _ rfl 5 _ rfl
  generalize y4.setCell ⟨y0.heap.size, 5, none⟩ (.int .u8 P) = y5 at K5 ⊢
  obtain ⟨b2, hb2⟩ : ∃ b, y0.heap.size = b := ⟨_, rfl⟩
  rw [hb2] at K5 ⊢
  clear hb2
  refine wp_region_held_drew (S := fun z => ∃ a', Fm w [(w.heap.size, rcC zR, 45), (b2, rcC ⟨h % 4, a', D, B3, B4, P, B6, h / 32 % 4⟩, 45)] z) (by kernel_rfl) ⟨_, K5.out.below (below_drew (Below.refl _ _))⟩ (fun hH => ?_)
  have U0 : Fm w [(w.heap.size, rcC zR, 45), (b2, rcC ⟨h % 4, next, D, B3, B4, P, B6, h / 32 % 4⟩, 45)] y5.drew := K5.out.below (below_drew (Below.refl _ _))
  generalize y5.drew = z0 at hH U0 ⊢
  refine wpAnyH_take (i := 0) (v := .slice (some ⟨g, o, none⟩) n cap) rfl (by kernel_rfl) (by kernel_rfl) (by kernel_rfl) (fun _ _ _ h => h) (.inl ⟨by kernel_rfl, fun u hu => by go_simp⟩) hH ?_
  try simp only [Act.put, List.setIfInBounds_toArray]
  refine wpAnyH_take (i := 1) (v := .int .i64 (at' : Int)) rfl (by kernel_rfl) (by kernel_rfl) (by kernel_rfl) (fun _ _ _ h => h) (.inl ⟨by kernel_rfl, fun u hu => by go_simp⟩) hH ?_
  try simp only [Act.put]
  refine wpAnyH_take (i := 2) (v := .int .i64 ((at' : Int) + 2)) rfl (by kernel_rfl) (by kernel_rfl) (by kernel_rfl) (fun _ _ _ h => h) (.inl ⟨by kernel_rfl, fun u hu => by go_simp; all_goals (rw [IntKind.wrap_i64]; omega)⟩) hH ?_
  try simp only [Act.put]
  refine wpAnyH_take (i := 3) (v := .pointer (some ⟨g, o + (at' + 1 + 1), none⟩)) rfl (by kernel_rfl) (by kernel_rfl) (by kernel_rfl) (fun _ _ _ h => h) (.inl ⟨by kernel_rfl, fun u hu => by go_simp⟩) hH ?_
  try simp only [Act.put]
  refine wpAnyH_take (i := 4) (v := .int .u8 A) rfl (by kernel_rfl) (by kernel_rfl) (by kernel_rfl) (fun _ _ _ h => h) (.inl ⟨by kernel_rfl, fun u hu => by obtain ⟨a', hu⟩ := hu; have cc := cells.out u hu.low; obtain ⟨cc1, cc2, cc3, cc4⟩ := cc; go_simp⟩) hH ?_
  try simp only [Act.put]
  refine wpAnyH_take (i := 5) (v := .int .u16 A) rfl (by kernel_rfl) (by kernel_rfl) (by kernel_rfl) (fun _ _ _ h => h) (.inl ⟨by kernel_rfl, fun u hu => by go_simp; all_goals (rw [IntKind.wrap_u16]; omega)⟩) hH ?_
  try simp only [Act.put]
  refine wpAnyH_take (i := 6) (v := .slice (some ⟨g, o, none⟩) n cap) rfl (by kernel_rfl) (by kernel_rfl) (by kernel_rfl) (fun _ _ _ h => h) (.inl ⟨by kernel_rfl, fun u hu => by go_simp⟩) hH ?_
  try simp only [Act.put]
  refine wpAnyH_take (i := 7) (v := .int .i64 (at' : Int)) rfl (by kernel_rfl) (by kernel_rfl) (by kernel_rfl) (fun _ _ _ h => h) (.inl ⟨by kernel_rfl, fun u hu => by go_simp⟩) hH ?_
  try simp only [Act.put]
  refine wpAnyH_take (i := 8) (v := .int .i64 ((at' : Int) + 3)) rfl (by kernel_rfl) (by kernel_rfl) (by kernel_rfl) (fun _ _ _ h => h) (.inl ⟨by kernel_rfl, fun u hu => by go_simp; all_goals (rw [IntKind.wrap_i64]; omega)⟩) hH ?_
  try simp only [Act.put]
  refine wpAnyH_take (i := 9) (v := .pointer (some ⟨g, o + (at' + 1 + 1 + 1), none⟩)) rfl (by kernel_rfl) (by kernel_rfl) (by kernel_rfl) (fun _ _ _ h => h) (.inl ⟨by kernel_rfl, fun u hu => by go_simp⟩) hH ?_
  try simp only [Act.put]
  refine wpAnyH_take (i := 10) (v := .int .u8 B) rfl (by kernel_rfl) (by kernel_rfl) (by kernel_rfl) (fun _ _ _ h => h) (.inl ⟨by kernel_rfl, fun u hu => by obtain ⟨a', hu⟩ := hu; have cc := cells.out u hu.low; obtain ⟨cc1, cc2, cc3, cc4⟩ := cc; go_simp⟩) hH ?_
  try simp only [Act.put]
  refine wpAnyH_take (i := 11) (v := .int .u16 B) rfl (by kernel_rfl) (by kernel_rfl) (by kernel_rfl) (fun _ _ _ h => h) (.inl ⟨by kernel_rfl, fun u hu => by go_simp; all_goals (rw [IntKind.wrap_u16]; omega)⟩) hH ?_
  try simp only [Act.put]
  refine wpAnyH_take (i := 12) (v := .int .u16 (256 * B)) rfl (by kernel_rfl) (by kernel_rfl) (by kernel_rfl) (fun _ _ _ h => h) (.inl ⟨by kernel_rfl, fun u hu => by go_simp; all_goals (rw [IntKind.wrap_u16]; omega)⟩) hH ?_
  try simp only [Act.put]
  refine wpAnyH_take (i := 13) (v := .int .u16 (A + 256 * B)) rfl (by kernel_rfl) (by kernel_rfl) (by kernel_rfl) (fun _ _ _ h => h) (.inl ⟨by kernel_rfl, fun u hu => by go_simp; all_goals (rw [IntKind.wrap_u16]; omega)⟩) hH ?_
  try simp only [Act.put]
  refine wpAnyH_take (i := 14) (v := .pointer (some ⟨b2, 1, none⟩)) rfl (by kernel_rfl) (by kernel_rfl) (by kernel_rfl) (fun _ _ _ h => h) (.inl ⟨by kernel_rfl, fun u hu => by go_simp⟩) hH ?_
  try simp only [Act.put]
  refine wpAnyH_ready (rs := [15]) (by kernel_rfl) (by simp) (AllReadyH.cons rfl (fun K hK => ?_) AllReadyH.nil)
  rw [if_pos (by rfl)]
  have dd6 := (U0.bx 1 _ _ _ rfl).c 1 _ (rcC_ad _)
  have zz6 := (U0.bx 1 _ _ _ rfl).fz 1
  have U1 : Hid (Fm w [(w.heap.size, rcC zR, 45), (b2, rcC ⟨h % 4, A + 256 * B, D, B3, B4, P, B6, h / 32 % 4⟩, 45)] (z0.setCell ⟨b2, 1, none⟩ (.int .u16 (A + 256 * B)))) := U0.setCell 1 _ _ _ _ rfl 1 _ rfl
  go_wp2
  refine hK.out _ _ ⟨_, U1.out⟩ (fun _ => ?_)
  clear hK K dd6 zz6
  try simp only [Act.put, List.setIfInBounds_toArray, List.set_cons_zero, List.set_cons_succ]
  refine wpAnyH_done (by kernel_rfl) ?_ _
  generalize z0.setCell ⟨b2, 1, none⟩ (.int .u16 (A + 256 * B)) = y8 at U1 ⊢
  have hM := rmay_any y8 ⟨h % 4, A + 256 * B, D, B3, B4, P, B6, h / 32 % 4⟩
  obtain ⟨mb, hmb⟩ : ∃ b, mayR ⟨h % 4, A + 256 * B, D, B3, B4, P, B6, h / 32 % 4⟩ = b := ⟨_, rfl⟩
  rw [hmb] at hM
  cases mb
  · have fin : Hid (oneR (l.drop at') next = none) := by
      show _ = _
      rw [hone.out, if_neg (by unfold okH; rw [hRe.out, hmb]; simp)]
    clear hmb
    go_wp2_with (first
      | ((with_reducible refine at_load rtR b2 (rcC ⟨h % 4, A + 256 * B, D, B3, B4, P, B6, h / 32 % 4⟩) ?_ ?_ (.tmp 10) ?_ ?_ ?_ ?_); exact U1.out.bx 1 _ _ _ rfl; rfl; kernel_rfl; rfl; rfl)
      | (go_at_call 69; refine hM.mono ?_; rintro e y6 ⟨rfl, h6⟩; have K6 : Hid (Fm w [(w.heap.size, rcC zR, 45), (b2, rcC ⟨h % 4, A + 256 * B, D, B3, B4, P, B6, h / 32 % 4⟩, 45)] y6) := U1.out.below h6; clear h6)
      | ((with_reducible refine at_bu #[] [] (rcC zR) ?_ ?_ ?_ hb0.out ?_); kernel_rfl; rfl; rfl)
      | ((with_reducible refine at_st rtR w.heap.size (rcC zR) (rcC zR) ?_ ?_ ?_ ?_ (.tmp 6) (.tmp 90) ?_ ?_ ?_ ?_ ?_); exact K6.out.bx 0 _ _ _ rfl; rfl; rfl; exact rcC_one _; rfl; rfl; rfl; rfl; intro y9 hw9; have K9 : Hid (Fm w [(w.heap.size, rcC zR, 45), (b2, rcC ⟨h % 4, A + 256 * B, D, B3, B4, P, B6, h / 32 % 4⟩, 45)] y9) := K6.out.put 0 _ _ _ _ rfl hw9.out))
    exact ret_row2 rtR rfl rfl rfl (K9.out.bx 0 _ _ _ rfl) rfl rfl ⟨_, by rw [fin.out]; rfl, (fun r k h => by rw [fin.out] at h; cases h), K9.out.low⟩

  · have hHd := fun v => rhead_any v ⟨h % 4, A + 256 * B, D, B3, B4, P, B6, h / 32 % 4⟩ next hRr.out hmb
    obtain ⟨H, hH⟩ : ∃ x, headR ⟨h % 4, A + 256 * B, D, B3, B4, P, B6, h / 32 % 4⟩ next = x := ⟨_, rfl⟩
    simp only [hH] at hHd
    by_cases hq : H = h
    · have qn : (H != h) = false := by simpa using hq
      have fin : Hid (oneR (l.drop at') next = some (⟨h % 4, A + 256 * B, D, B3, B4, P, B6, h / 32 % 4⟩, 5)) := by
        show _ = _
        rw [hone.out, if_pos (by unfold okH; rw [hRe.out, hmb, hH]; simpa using hq), hRe.out]
      clear hmb hH hq
      go_wp2_with (first
      | ((with_reducible refine at_load rtR b2 (rcC ⟨h % 4, A + 256 * B, D, B3, B4, P, B6, h / 32 % 4⟩) ?_ ?_ (.tmp 10) ?_ ?_ ?_ ?_); exact U1.out.bx 1 _ _ _ rfl; rfl; kernel_rfl; rfl; rfl)
      | (go_at_call 69; refine hM.mono ?_; rintro e y6 ⟨rfl, h6⟩; have K6 : Hid (Fm w [(w.heap.size, rcC zR, 45), (b2, rcC ⟨h % 4, A + 256 * B, D, B3, B4, P, B6, h / 32 % 4⟩, 45)] y6) := U1.out.below h6; clear h6)
      | ((with_reducible refine at_load rtR b2 (rcC ⟨h % 4, A + 256 * B, D, B3, B4, P, B6, h / 32 % 4⟩) ?_ ?_ (.tmp 10) ?_ ?_ ?_ ?_); exact K6.out.bx 1 _ _ _ rfl; rfl; kernel_rfl; rfl; rfl)
      | (go_at_call 44; refine (hHd y6).mono ?_; rintro e y7 ⟨rfl, h7⟩; have K7 : Hid (Fm w [(w.heap.size, rcC zR, 45), (b2, rcC ⟨h % 4, A + 256 * B, D, B3, B4, P, B6, h / 32 % 4⟩, 45)] y7) := K6.out.below h7; clear h7)
      | ((with_reducible refine at_load rtR b2 (rcC ⟨h % 4, A + 256 * B, D, B3, B4, P, B6, h / 32 % 4⟩) ?_ ?_ (.tmp 10) ?_ ?_ ?_ ?_); exact K7.out.bx 1 _ _ _ rfl; rfl; kernel_rfl; rfl; rfl)
      | ((with_reducible refine at_st rtR w.heap.size (rcC zR) (rcC ⟨h % 4, A + 256 * B, D, B3, B4, P, B6, h / 32 % 4⟩) ?_ ?_ ?_ ?_ (.tmp 6) (.tmp 91) ?_ ?_ ?_ ?_ ?_); exact K7.out.bx 0 _ _ _ rfl; rfl; rfl; exact rcC_one _; rfl; rfl; rfl; rfl; intro y9 hw9; have K9 : Hid (Fm w [(w.heap.size, rcC ⟨h % 4, A + 256 * B, D, B3, B4, P, B6, h / 32 % 4⟩, 45), (b2, rcC ⟨h % 4, A + 256 * B, D, B3, B4, P, B6, h / 32 % 4⟩, 45)] y9) := K7.out.put 0 _ _ _ _ rfl hw9.out))
      exact ret_row2 rtR rfl rfl rfl (K9.out.bx 0 _ _ _ rfl) rfl rfl ⟨_, by rw [fin.out]; rfl, (fun r k h => by rw [fin.out] at h; cases h; rfl), K9.out.low⟩
    · have qn : (H != h) = true := by simpa using hq
      have fin : Hid (oneR (l.drop at') next = none) := by
        show _ = _
        rw [hone.out, if_neg (by unfold okH; rw [hRe.out, hmb, hH]; simpa using hq)]
      clear hmb hH hq
      go_wp2_with (first
      | ((with_reducible refine at_load rtR b2 (rcC ⟨h % 4, A + 256 * B, D, B3, B4, P, B6, h / 32 % 4⟩) ?_ ?_ (.tmp 10) ?_ ?_ ?_ ?_); exact U1.out.bx 1 _ _ _ rfl; rfl; kernel_rfl; rfl; rfl)
      | (go_at_call 69; refine hM.mono ?_; rintro e y6 ⟨rfl, h6⟩; have K6 : Hid (Fm w [(w.heap.size, rcC zR, 45), (b2, rcC ⟨h % 4, A + 256 * B, D, B3, B4, P, B6, h / 32 % 4⟩, 45)] y6) := U1.out.below h6; clear h6)
      | ((with_reducible refine at_load rtR b2 (rcC ⟨h % 4, A + 256 * B, D, B3, B4, P, B6, h / 32 % 4⟩) ?_ ?_ (.tmp 10) ?_ ?_ ?_ ?_); exact K6.out.bx 1 _ _ _ rfl; rfl; kernel_rfl; rfl; rfl)
      | (go_at_call 44; refine (hHd y6).mono ?_; rintro e y7 ⟨rfl, h7⟩; have K7 : Hid (Fm w [(w.heap.size, rcC zR, 45), (b2, rcC ⟨h % 4, A + 256 * B, D, B3, B4, P, B6, h / 32 % 4⟩, 45)] y7) := K6.out.below h7; clear h7)
      | ((with_reducible refine at_bu #[] [] (rcC zR) ?_ ?_ ?_ hb0.out ?_); kernel_rfl; rfl; rfl)
      | ((with_reducible refine at_st rtR w.heap.size (rcC zR) (rcC zR) ?_ ?_ ?_ ?_ (.tmp 6) (.tmp 90) ?_ ?_ ?_ ?_ ?_); exact K7.out.bx 0 _ _ _ rfl; rfl; rfl; exact rcC_one _; rfl; rfl; rfl; rfl; intro y9 hw9; have K9 : Hid (Fm w [(w.heap.size, rcC zR, 45), (b2, rcC ⟨h % 4, A + 256 * B, D, B3, B4, P, B6, h / 32 % 4⟩, 45)] y9) := K7.out.put 0 _ _ _ _ rfl hw9.out))
      exact ret_row2 rtR rfl rfl rfl (K9.out.bx 0 _ _ _ rfl) rfl rfl ⟨_, by rw [fin.out]; rfl, (fun r k h => by rw [fin.out] at h; cases h), K9.out.low⟩

end Go.Proofs.YtoajmicdphffnaaDoor
