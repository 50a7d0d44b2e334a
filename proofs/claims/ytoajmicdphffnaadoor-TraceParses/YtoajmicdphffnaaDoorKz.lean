/- The record that begins at a place, at the next address. The record that begins at a place, by the document. -/
import Derived.Test.YtoajmicdphffnaaDoorKn
import Derived.Test.YtoajmicdphffnaaDoorKx
namespace Go.Proofs.YtoajmicdphffnaaDoor
open Go Go.RowKit
set_option linter.unusedVariables false
set_option maxHeartbeats 20000000
set_option maxRecDepth 20000

theorem rrec1_near (w : World) (sp : Option Addr) (cap : Nat) (l : List UInt8) (at' : Nat) (next : Int) (hl : Hid (LiesB w sp l)) (hn : l.length ≤ 4611686018427387904) (ha : at' ≤ l.length) (n0 : 0 ≤ next) (n1 : next ≤ 65535) (x : UInt8) (hx : l[at']? = some x) (h128 : ¬ 128 ≤ x.toNat) (hlong : at' + 2 ≤ l.length) :
    Calls Tryd.prog 48 #[.slice sp l.length cap, .int .i64 (at' : Int), .int .u16 next] w fun e w' => ∃ s', e = .returned (.tuple #[.agg (rcC s'), .int .i64 (oneK (oneR (l.drop at') next))]) ∧ Hid ((∀ r k, oneR (l.drop at') next = some (r, k) → s' = r) ∧ Below w.heap.size w w') := by
  have zz := zeroV_R
  have hF : Hid (Fm w [(w.heap.size, rcC zR, 45)] (w.alloc (.cells (rcC zR) 45))) := Fm.one w _ _
  have hb0 : Hid (Tryd.prog.built 45 [] = some (rcC zR)) := built0
  obtain ⟨n, hn'⟩ : ∃ n, l.length = n := ⟨_, rfl⟩
  rw [hn'] at hn ha hlong ⊢
  have hnn : Hid (l.length = n) := hn'
  have ni : (n : Int) ≤ 4611686018427387904 := by omega
  have ai : (at' : Int) ≤ n := by omega
  have hlt : at' < n := by omega
  have q0 : decide ((n : Int) ≤ at') = false := by simp; omega
  have hdx : l.drop at' = x :: l.drop (at' + 1) := by
    obtain ⟨x', h1, h2⟩ := get_drop (show at' < l.length by omega)
    rw [hx] at h1
    cases h1
    exact h2
  obtain ⟨g, o, rfl, cx⟩ := hl.out at' x hx
  have ix := idxB g o n cap at' hlt
  obtain ⟨h, hh⟩ : ∃ h : Int, (x.toNat : Int) = h := ⟨_, rfl⟩
  have hb : h ≤ 255 ∧ 0 ≤ h := by have := UInt8.toNat_lt x; omega
  obtain ⟨hb1, hb2⟩ := hb
  have cx' : Hid (∀ z, Below w.heap.size w z → z.cell? ⟨g, o + at', none⟩ = some (.int .u8 h)) := fun z hz => by
    rw [← hh]
    exact (hz.cell (p := ⟨g, o + at', none⟩) (World.block_lt_of_cell? w _ cx)).trans cx
  have ati : (at' : Int) < n := by omega
  replace hx : Hid _ := hx
  replace hh : Hid _ := hh
  obtain ⟨B3, hB3⟩ : ∃ b, (h / 4 % 2 == 1) = b := ⟨_, rfl⟩
  obtain ⟨B4, hB4⟩ : ∃ b, (h / 8 % 2 == 1) = b := ⟨_, rfl⟩
  obtain ⟨B6, hB6⟩ : ∃ b, (h / 16 % 2 == 1) = b := ⟨_, rfl⟩
  have hrH : Hid (∀ p a d, recH h p a d = ⟨h % 4, a, d, B3, B4, p, B6, h / 32 % 4⟩) := fun p a d => by
    unfold recH
    rw [← hB3, ← hB4, ← hB6]
    congr 1 <;> rw [Bool.eq_iff_iff] <;> simp
  clear cx hlt hn'
  have hbig : ¬ 128 ≤ h := by have := hh.out; omega
  have qb : decide (128 ≤ h) = false := by simpa using hbig
  have qs : decide ((n : Int) - at' < 2) = false := by simp; omega
  obtain ⟨d, hd, hdd⟩ := get_drop (show at' + 1 < l.length by rw [hnn.out]; omega)
  have hone : Hid (oneR (l.drop at') next = if okH (recH h 0 next d.toNat) next h then some (recH h 0 next d.toNat, 2) else none) := by
    show _ = _
    rw [hdx, hdd]
    simp only [oneR]
    rw [if_neg (by have := hh.out; omega), hh.out]
  obtain ⟨g', o', e', cd⟩ := hl.out _ d hd
  cases e'
  have id1 : ∀ v, (Instr.indexAt 34 (.slice (some ⟨g, o, none⟩) n cap) (.int .i64 ((at' : Int) + 1))).run Tryd.prog v = .ok (.pointer (some ⟨g, o + (at' + 1), none⟩)) v := fun v => idxB g o n cap (at' + 1) (by omega) v
  have bx : ∀ b : UInt8, (b.toNat : Int) ≤ 255 ∧ 0 ≤ (b.toNat : Int) := fun b => by have := UInt8.toNat_lt b; omega
  obtain ⟨bd1, bd0⟩ := bx d
  obtain ⟨D, hD⟩ : ∃ h : Int, (d.toNat : Int) = h := ⟨_, rfl⟩
  have cells : Hid (∀ z, Below w.heap.size w z → z.cell? ⟨g, o + (at' + 1), none⟩ = some (.int .u8 D)) := fun z hz => by
    rw [← hD]
    exact (hz.cell (World.block_lt_of_cell? w _ cd)).trans cd
  rw [hD] at hone bd1 bd0
  have hRe : Hid (recH h 0 next D = ⟨h % 4, next, D, B3, B4, 0, B6, h / 32 % 4⟩) := hrH.out _ _ _
  have hRr : Hid (Rr ⟨h % 4, next, D, B3, B4, 0, B6, h / 32 % 4⟩) := by rw [← hRe.out]; exact recH_range _ _ _ _ (by decide) (by decide) n0 n1 bd0 bd1
  have hb7 : Hid _ := built7 (h % 4) next D B3 B4 B6 (h / 32 % 4)
  clear hD cd hd hdd hdx bx hbig ha h128
  go_enter Tryd.func48, Tryd.ntmps48
  go_wp2_with (first
    | ((with_reducible refine gen_world (w.alloc (.cells (rcC zR) 45)) (Fm w [(w.heap.size, rcC zR, 45)]) hF.out ?_); intro y0 K0; have cxx := cx'.out y0 K0.out.low; have cdd := cells.out y0 K0.out.low)
    | ((with_reducible refine at_bu #[(0, .tmp 31), (3, .tmp 35), (4, .tmp 39), (6, .tmp 43), (7, .tmp 46), (1, .tmp 47), (2, .tmp 54)] [(0, .int .u8 (h % 4)), (3, .bool B3), (4, .bool B4), (6, .bool B6), (7, .int .u8 (h / 32 % 4)), (1, .int .u16 next), (2, .int .u8 D)] (rcC ⟨h % 4, next, D, B3, B4, 0, B6, h / 32 % 4⟩) ?_ ?_ ?_ hb7.out ?_); kernel_rfl; rfl; (simp only [List.map_toArray, List.map_cons, List.map_nil]; rfl))
    | ((with_reducible refine gen_world (y0.alloc (.cells (rcC zR) 45)) (Fm w [(w.heap.size, rcC zR, 45), (y0.heap.size, rcC zR, 45)]) ?_ ?_); exact K0.out.new _ _; intro y3 K3)
    | ((with_reducible refine at_st rtR y0.heap.size (rcC zR) (rcC ⟨h % 4, next, D, B3, B4, 0, B6, h / 32 % 4⟩) ?_ ?_ ?_ ?_ (.tmp 10) (.tmp 55) ?_ ?_ ?_ ?_ ?_); exact K3.out.bx 1 _ _ _ rfl; rfl; rfl; exact rcC_one _; rfl; rfl; rfl; rfl; intro y4 hw4; have K4 : Hid (Fm w [(w.heap.size, rcC zR, 45), (y0.heap.size, rcC ⟨h % 4, next, D, B3, B4, 0, B6, h / 32 % 4⟩, 45)] y4) := K3.out.put 1 _ _ _ _ rfl hw4.out; refine stopAt ?_))
  refine Stop.go ?_
  obtain ⟨b2, hb2⟩ : ∃ b, y0.heap.size = b := ⟨_, rfl⟩
  rw [hb2] at K4 ⊢
  clear hb2
  have hM := rmay_any y4 ⟨h % 4, next, D, B3, B4, 0, B6, h / 32 % 4⟩
  obtain ⟨mb, hmb⟩ : ∃ b, mayR ⟨h % 4, next, D, B3, B4, 0, B6, h / 32 % 4⟩ = b := ⟨_, rfl⟩
  rw [hmb] at hM
  cases mb
  · have fin : Hid (oneR (l.drop at') next = none) := by
      show _ = _
      rw [hone.out, if_neg (by unfold okH; rw [hRe.out, hmb]; simp)]
    clear hmb
    go_wp2_with (first
      | ((with_reducible refine at_load rtR b2 (rcC ⟨h % 4, next, D, B3, B4, 0, B6, h / 32 % 4⟩) ?_ ?_ (.tmp 10) ?_ ?_ ?_ ?_); exact K4.out.bx 1 _ _ _ rfl; rfl; kernel_rfl; rfl; rfl)
      | (go_at_call 69; refine hM.mono ?_; rintro e y6 ⟨rfl, h6⟩; have K6 : Hid (Fm w [(w.heap.size, rcC zR, 45), (b2, rcC ⟨h % 4, next, D, B3, B4, 0, B6, h / 32 % 4⟩, 45)] y6) := K4.out.below h6; clear h6)
      | ((with_reducible refine at_bu #[] [] (rcC zR) ?_ ?_ ?_ hb0.out ?_); kernel_rfl; rfl; rfl)
      | ((with_reducible refine at_st rtR w.heap.size (rcC zR) (rcC zR) ?_ ?_ ?_ ?_ (.tmp 6) (.tmp 90) ?_ ?_ ?_ ?_ ?_); exact K6.out.bx 0 _ _ _ rfl; rfl; rfl; exact rcC_one _; rfl; rfl; rfl; rfl; intro y9 hw9; have K9 : Hid (Fm w [(w.heap.size, rcC zR, 45), (b2, rcC ⟨h % 4, next, D, B3, B4, 0, B6, h / 32 % 4⟩, 45)] y9) := K6.out.put 0 _ _ _ _ rfl hw9.out))
    exact ret_row2 rtR rfl rfl rfl (K9.out.bx 0 _ _ _ rfl) rfl rfl ⟨_, by rw [fin.out]; rfl, (fun r k h => by rw [fin.out] at h; cases h), K9.out.low⟩

  · have hHd := fun v => rhead_any v ⟨h % 4, next, D, B3, B4, 0, B6, h / 32 % 4⟩ next hRr.out hmb
    obtain ⟨H, hH⟩ : ∃ x, headR ⟨h % 4, next, D, B3, B4, 0, B6, h / 32 % 4⟩ next = x := ⟨_, rfl⟩
    simp only [hH] at hHd
    by_cases hq : H = h
    · have qn : (H != h) = false := by simpa using hq
      have fin : Hid (oneR (l.drop at') next = some (⟨h % 4, next, D, B3, B4, 0, B6, h / 32 % 4⟩, 2)) := by
        show _ = _
        rw [hone.out, if_pos (by unfold okH; rw [hRe.out, hmb, hH]; simpa using hq), hRe.out]
      clear hmb hH hq
      go_wp2_with (first
      | ((with_reducible refine at_load rtR b2 (rcC ⟨h % 4, next, D, B3, B4, 0, B6, h / 32 % 4⟩) ?_ ?_ (.tmp 10) ?_ ?_ ?_ ?_); exact K4.out.bx 1 _ _ _ rfl; rfl; kernel_rfl; rfl; rfl)
      | (go_at_call 69; refine hM.mono ?_; rintro e y6 ⟨rfl, h6⟩; have K6 : Hid (Fm w [(w.heap.size, rcC zR, 45), (b2, rcC ⟨h % 4, next, D, B3, B4, 0, B6, h / 32 % 4⟩, 45)] y6) := K4.out.below h6; clear h6)
      | ((with_reducible refine at_load rtR b2 (rcC ⟨h % 4, next, D, B3, B4, 0, B6, h / 32 % 4⟩) ?_ ?_ (.tmp 10) ?_ ?_ ?_ ?_); exact K6.out.bx 1 _ _ _ rfl; rfl; kernel_rfl; rfl; rfl)
      | (go_at_call 44; refine (hHd y6).mono ?_; rintro e y7 ⟨rfl, h7⟩; have K7 : Hid (Fm w [(w.heap.size, rcC zR, 45), (b2, rcC ⟨h % 4, next, D, B3, B4, 0, B6, h / 32 % 4⟩, 45)] y7) := K6.out.below h7; clear h7)
      | ((with_reducible refine at_load rtR b2 (rcC ⟨h % 4, next, D, B3, B4, 0, B6, h / 32 % 4⟩) ?_ ?_ (.tmp 10) ?_ ?_ ?_ ?_); exact K7.out.bx 1 _ _ _ rfl; rfl; kernel_rfl; rfl; rfl)
      | ((with_reducible refine at_st rtR w.heap.size (rcC zR) (rcC ⟨h % 4, next, D, B3, B4, 0, B6, h / 32 % 4⟩) ?_ ?_ ?_ ?_ (.tmp 6) (.tmp 91) ?_ ?_ ?_ ?_ ?_); exact K7.out.bx 0 _ _ _ rfl; rfl; rfl; exact rcC_one _; rfl; rfl; rfl; rfl; intro y9 hw9; have K9 : Hid (Fm w [(w.heap.size, rcC ⟨h % 4, next, D, B3, B4, 0, B6, h / 32 % 4⟩, 45), (b2, rcC ⟨h % 4, next, D, B3, B4, 0, B6, h / 32 % 4⟩, 45)] y9) := K7.out.put 0 _ _ _ _ rfl hw9.out))
      exact ret_row2 rtR rfl rfl rfl (K9.out.bx 0 _ _ _ rfl) rfl rfl ⟨_, by rw [fin.out]; rfl, (fun r k h => by rw [fin.out] at h; cases h; rfl), K9.out.low⟩
    · have qn : (H != h) = true := by simpa using hq
      have fin : Hid (oneR (l.drop at') next = none) := by
        show _ = _
        rw [hone.out, if_neg (by unfold okH; rw [hRe.out, hmb, hH]; simpa using hq)]
      clear hmb hH hq
      go_wp2_with (first
      | ((with_reducible refine at_load rtR b2 (rcC ⟨h % 4, next, D, B3, B4, 0, B6, h / 32 % 4⟩) ?_ ?_ (.tmp 10) ?_ ?_ ?_ ?_); exact K4.out.bx 1 _ _ _ rfl; rfl; kernel_rfl; rfl; rfl)
      | (go_at_call 69; refine hM.mono ?_; rintro e y6 ⟨rfl, h6⟩; have K6 : Hid (Fm w [(w.heap.size, rcC zR, 45), (b2, rcC ⟨h % 4, next, D, B3, B4, 0, B6, h / 32 % 4⟩, 45)] y6) := K4.out.below h6; clear h6)
      | ((with_reducible refine at_load rtR b2 (rcC ⟨h % 4, next, D, B3, B4, 0, B6, h / 32 % 4⟩) ?_ ?_ (.tmp 10) ?_ ?_ ?_ ?_); exact K6.out.bx 1 _ _ _ rfl; rfl; kernel_rfl; rfl; rfl)
      | (go_at_call 44; refine (hHd y6).mono ?_; rintro e y7 ⟨rfl, h7⟩; have K7 : Hid (Fm w [(w.heap.size, rcC zR, 45), (b2, rcC ⟨h % 4, next, D, B3, B4, 0, B6, h / 32 % 4⟩, 45)] y7) := K6.out.below h7; clear h7)
      | ((with_reducible refine at_bu #[] [] (rcC zR) ?_ ?_ ?_ hb0.out ?_); kernel_rfl; rfl; rfl)
      | ((with_reducible refine at_st rtR w.heap.size (rcC zR) (rcC zR) ?_ ?_ ?_ ?_ (.tmp 6) (.tmp 90) ?_ ?_ ?_ ?_ ?_); exact K7.out.bx 0 _ _ _ rfl; rfl; rfl; exact rcC_one _; rfl; rfl; rfl; rfl; intro y9 hw9; have K9 : Hid (Fm w [(w.heap.size, rcC zR, 45), (b2, rcC ⟨h % 4, next, D, B3, B4, 0, B6, h / 32 % 4⟩, 45)] y9) := K7.out.put 0 _ _ _ _ rfl hw9.out))
      exact ret_row2 rtR rfl rfl rfl (K9.out.bx 0 _ _ _ rfl) rfl rfl ⟨_, by rw [fin.out]; rfl, (fun r k h => by rw [fin.out] at h; cases h), K9.out.low⟩

end Go.Proofs.YtoajmicdphffnaaDoor

namespace Go.Proofs.YtoajmicdphffnaaDoor
open Go Go.RowKit
set_option linter.unusedVariables false
set_option maxHeartbeats 20000000
set_option maxRecDepth 20000

theorem rrec1_any (w : World) (sp : Option Addr) (cap : Nat) (l : List UInt8) (at' : Nat) (next : Int) (hl : Hid (LiesB w sp l)) (hn : l.length ≤ 4611686018427387904) (ha : at' ≤ l.length) (n0 : 0 ≤ next) (n1 : next ≤ 65535) :
    Calls Tryd.prog 48 #[.slice sp l.length cap, .int .i64 (at' : Int), .int .u16 next] w fun e w' => ∃ s', e = .returned (.tuple #[.agg (rcC s'), .int .i64 (oneK (oneR (l.drop at') next))]) ∧ Hid ((∀ r k, oneR (l.drop at') next = some (r, k) → s' = r) ∧ Below w.heap.size w w') := by
  by_cases hend : at' = l.length
  · exact rrec1_end w sp cap l at' next hl hn ha n0 n1 hend
  obtain ⟨x, hx, _⟩ := get_drop (show at' < l.length by omega)
  by_cases h128 : 128 ≤ x.toNat
  · by_cases hlong : at' + 5 ≤ l.length
    · exact rrec1_far w sp cap l at' next hl hn ha n0 n1 x hx h128 hlong
    · exact rrec1_fshort w sp cap l at' next hl hn ha n0 n1 x hx h128 (by omega) (by omega)
  · by_cases hlong : at' + 2 ≤ l.length
    · exact rrec1_near w sp cap l at' next hl hn ha n0 n1 x hx h128 hlong
    · exact rrec1_nshort w sp cap l at' next hl hn ha n0 n1 x hx h128 (by omega) (by omega)
end Go.Proofs.YtoajmicdphffnaaDoor
