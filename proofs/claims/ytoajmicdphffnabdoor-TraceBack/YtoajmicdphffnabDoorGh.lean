/- A record that bytes begin with: the program's walk. -/
import Derived.Test.YtoajmicdphffnabDoorGf
import Derived.Deep.Cut
namespace Go.Proofs.YtoajmicdphffnabDoor
open Go Go.RowKit
set_option linter.unusedVariables false
set_option maxHeartbeats 8000000
set_option maxRecDepth 20000

theorem LiesB.at0 {x : World} {g o : Nat} {l : List UInt8} {b : UInt8} (h : LiesB x (some ⟨g, o, none⟩) l) (hb : l[0]? = some b) : x.cell? ⟨g, o, none⟩ = some (.int .u8 (b.toNat : Int)) := by
  obtain ⟨g', o', e, c⟩ := h 0 b hb
  cases e
  exact c
theorem LiesB.at1 {x : World} {g o k : Nat} {l : List UInt8} {b : UInt8} (h : LiesB x (some ⟨g, o, none⟩) l) (hb : l[k]? = some b) : x.cell? ⟨g, o + k, none⟩ = some (.int .u8 (b.toNat : Int)) := by
  obtain ⟨g', o', e, c⟩ := h k b hb
  cases e
  exact c
theorem built8 (a b c : Int) (p q r : Bool) (d : Int) : Tryd.prog.built 45 [(0, .int .u8 a), (1, .int .u16 b), (2, .int .u8 c), (3, .bool p), (4, .bool q), (6, .bool r), (7, .int .u8 d)] = some (rcC ⟨a, b, c, p, q, 0, r, d⟩) := by kernel_rfl
theorem and_nat (N : Nat) (h : N < 256) : bits .and .u8 (N : Int) 3 = ((N % 4 : Nat) : Int) ∧ (bits .and .u8 (N : Int) 4 != 0) = decide (N / 4 % 2 = 1) ∧ (bits .and .u8 (N : Int) 8 != 0) = decide (N / 8 % 2 = 1) ∧ (bits .and .u8 (N : Int) 16 != 0) = decide (N / 16 % 2 = 1) ∧ bits .and .u8 (N : Int) 96 / 32 = ((N / 32 % 4 : Nat) : Int) ∧ 0 ≤ bits .and .u8 (N : Int) 96 ∧ bits .and .u8 (N : Int) 96 ≤ 255 ∧ (bits .and .u8 (N : Int) 128 != 0) = decide (128 ≤ N) := and_all ⟨N, h⟩
theorem two_boxes {w y : World} {cs ds : Array Value} {t u : TypeId} (h : Fm w [(w.heap.size, cs, t)] y) (hs : y.heap.size = w.heap.size + 1) : Fm w [(w.heap.size, cs, t), (w.heap.size + 1, ds, u)] (y.alloc (.cells ds u)) := by
  have := h.new ds u
  rw [hs] at this
  exact this
theorem read1_any (w : World) (sp : Option Addr) (cap : Nat) (l : List UInt8) (next : Int) (hl : Hid (LiesB w sp l)) (hn : l.length ≤ 4611686018427387904) (n0 : 0 ≤ next) (n1 : next ≤ 65535) :
    Calls Tryd.prog 28 #[.slice sp l.length cap, .int .u16 next] w fun e w' => e = endE (oneR l next) ∧ Below w.heap.size w w' := by
  have zz := zeroV_R
  have hF : Hid (Fm w [(w.heap.size, rcC zR, 45)] (w.alloc (.cells (rcC zR) 45)) ∧ (w.alloc (.cells (rcC zR) 45)).heap.size = w.heap.size + 1) := ⟨Fm.one w _ _, by simp⟩
  obtain ⟨n, hn'⟩ : ∃ n, l.length = n := ⟨_, rfl⟩
  have ni : (n : Int) ≤ 4611686018427387904 := by omega
  by_cases h2 : n < 2
  · have fin : Hid (oneR l next = none) := by
      refine one_none l next fun x t e => ?_
      have : (x :: t).length < 2 := by rw [← e]; omega
      simp at this
      split <;> omega
    have q2 : decide (2 ≤ (n : Int)) = false := by simp; omega
    rw [fin.out, hn']
    clear h2 hn hn' fin
    go_enter Tryd.func28, Tryd.ntmps28
    go_wp2_with (first
      | ((with_reducible refine gen_world (w.alloc (.cells (rcC zR) 45)) (Fm w [(w.heap.size, rcC zR, 45)]) hF.out.1 ?_); intro y0 K0)
      | (go_at_call 23; refine (need_no y0).mono ?_; rintro e y ⟨rfl, hy⟩; replace hy := hy.symm; subst hy))
    exact ⟨rfl, rfl, K0.out.low⟩
  have q2 : decide (2 ≤ (n : Int)) = true := by simp; omega
  obtain ⟨x0, x1, t, hlt⟩ : ∃ x0 x1 t, l = x0 :: x1 :: t := by
    have h : 2 ≤ l.length := by omega
    match l, h with
    | a :: b :: t, _ => exact ⟨a, b, t, rfl⟩
  obtain ⟨g, o, rfl, _⟩ := hl.out 0 x0 (by rw [hlt]; rfl)
  have hx0 : Hid (l[0]? = some x0) := by show _ = _; rw [hlt]; rfl
  have hx1 : Hid (l[1]? = some x1) := by show _ = _; rw [hlt]; rfl
  have i0 : ∀ v, (Instr.indexAt 23 (.slice (some ⟨g, o, none⟩) n cap) (.int .i64 0)).run Tryd.prog v = .ok (.pointer (some ⟨g, o, none⟩)) v := fun v => idxB g o n cap 0 (by omega) v
  have i1 : ∀ v, (Instr.indexAt 23 (.slice (some ⟨g, o, none⟩) n cap) (.int .i64 1)).run Tryd.prog v = .ok (.pointer (some ⟨g, o + 1, none⟩)) v := fun v => idxB g o n cap 1 (by omega) v
  have lt0 := UInt8.toNat_lt x0
  have lt1 := UInt8.toNat_lt x1
  obtain ⟨N, hN⟩ : ∃ N, x0.toNat = N := ⟨_, rfl⟩
  have hone : Hid (oneR l next = if 128 ≤ N then match (x1 :: t) with
      | p :: a :: b :: d :: _ => if okH (recH N p.toNat ((a.toNat : Int) + 256 * b.toNat) d.toNat) next N then some (recH N p.toNat ((a.toNat : Int) + 256 * b.toNat) d.toNat, 5) else none
      | _ => none
    else if okH (recH N 0 next x1.toNat) next N then some (recH N 0 next x1.toNat, 2) else none) := by show _ = _; rw [hlt, ← hN]; rfl
  rw [hN] at lt0
  obtain ⟨A3, A4, A8, A16, A96, A960, A961, A128⟩ := and_nat N (by simpa using lt0)
  obtain ⟨h, hhN⟩ : ∃ x : Int, (N : Int) = x := ⟨_, rfl⟩
  have hh : Hid ((x0.toNat : Int) = h) := by show _ = _; rw [hN, hhN]
  obtain ⟨D, hDD⟩ : ∃ x : Int, (x1.toNat : Int) = x := ⟨_, rfl⟩
  have hD : Hid ((x1.toNat : Int) = D) := hDD
  rw [hhN] at A3 A4 A8 A16 A96 A960 A961 A128
  have D0 : 0 ≤ D := by omega
  have D1 : D ≤ 255 := by omega
  obtain ⟨M7, hM7⟩ : ∃ x : Int, h / 32 % 4 = x := ⟨_, rfl⟩
  obtain ⟨a96, e96⟩ : ∃ x, bits .and .u8 h 96 = x := ⟨_, rfl⟩
  obtain ⟨a4, e4⟩ : ∃ x, bits .and .u8 h 4 = x := ⟨_, rfl⟩
  obtain ⟨a8, e8⟩ : ∃ x, bits .and .u8 h 8 = x := ⟨_, rfl⟩
  obtain ⟨a16, e16⟩ : ∃ x, bits .and .u8 h 16 = x := ⟨_, rfl⟩
  obtain ⟨a128, e128⟩ : ∃ x, bits .and .u8 h 128 = x := ⟨_, rfl⟩
  obtain ⟨C3, hC3⟩ : ∃ x, h % 4 = x := ⟨_, rfl⟩
  rw [e96] at A96 A960 A961
  rw [e4] at A4
  rw [e8] at A8
  rw [e16] at A16
  rw [e128] at A128
  have e7 : a96 / 32 = M7 := by rw [A96, ← hM7, ← hhN]; push_cast; rfl
  have e3 : bits .and .u8 h 3 = C3 := by rw [A3, ← hC3, ← hhN]; push_cast; rfl
  have C0 : 0 ≤ C3 := by omega
  have C1 : C3 ≤ 3 := by omega
  obtain ⟨B3, hB3⟩ : ∃ b, decide (h / 4 % 2 = 1) = b := ⟨_, rfl⟩
  obtain ⟨B4, hB4⟩ : ∃ b, decide (h / 8 % 2 = 1) = b := ⟨_, rfl⟩
  obtain ⟨B6, hB6⟩ : ∃ b, decide (h / 16 % 2 = 1) = b := ⟨_, rfl⟩
  have r3 : (a4 != 0) = B3 := by rw [A4, ← hB3, ← hhN, Bool.eq_iff_iff, decide_eq_true_iff, decide_eq_true_iff]; omega
  have r4 : (a8 != 0) = B4 := by rw [A8, ← hB4, ← hhN, Bool.eq_iff_iff, decide_eq_true_iff, decide_eq_true_iff]; omega
  have r6 : (a16 != 0) = B6 := by rw [A16, ← hB6, ← hhN, Bool.eq_iff_iff, decide_eq_true_iff, decide_eq_true_iff]; omega
  obtain ⟨b128, hb128⟩ : ∃ b, (a128 != 0) = b := ⟨_, rfl⟩
  have hrec : Hid (∀ p a d, recH N p a d = ⟨C3, a, d, B3, B4, p, B6, M7⟩) := fun p a d => by unfold recH; rw [hhN, hB3, hB4, hB6, hM7, hC3]
  have hw7 : IntKind.u8.wrap M7 = M7 := by rw [IntKind.wrap_u8]; omega
  have hb7 : Hid _ := built8 C3 next D B3 B4 B6 M7
  have h0 : 0 ≤ h := by omega
  have h1 : h ≤ 255 := by omega
  have m0 : 0 ≤ M7 := by omega
  have m1 : M7 ≤ 3 := by omega
  have hlt' : Hid _ := hlt
  have hNN : Hid (N < 256 ∧ (N : Int) = h ∧ (x1.toNat : Int) = D) := ⟨by simpa using lt0, hhN, hDD⟩
  by_cases hfar : 128 ≤ N
  · have b128' : b128 = true := by rw [← hb128, A128]; simpa using hfar
    subst b128'
    by_cases h5 : n < 5
    · have fin : Hid (oneR l next = none) := by
        refine one_none l next fun x t' e => ?_
        have e0 : x = x0 := by rw [hlt] at e; simp at e; exact e.1.symm
        have e1 : (x :: t').length < 5 := by rw [← e]; omega
        rw [e0, hN, if_pos hfar]
        simp at e1
        omega
      have q5 : decide (5 ≤ (n : Int)) = false := by simp; omega
      rw [fin.out, hn']
      clear hone hfar hn hn' h2 h5 hlt lt0 lt1 hN hhN hDD hM7 hB3 hB4 hB6 A3 A4 A8 A16 A96 A128 hC3 fin
      go_enter Tryd.func28, Tryd.ntmps28
      go_wp2_with (first
      | ((with_reducible refine gen_world (w.alloc (.cells (rcC zR) 45)) (fun z => Fm w [(w.heap.size, rcC zR, 45)] z ∧ z.heap.size = w.heap.size + 1) hF.out ?_); intro y0 K0; have c0 := (hl.out.below K0.out.1.low).at0 hx0.out; have c1 := (hl.out.below K0.out.1.low).at1 hx1.out; rw [hh.out] at c0; rw [hD.out] at c1)
      | ((with_reducible refine at_bu #[(0, .tmp 17), (1, .tmp 18), (2, .tmp 21), (3, .tmp 24), (4, .tmp 27), (6, .tmp 30), (7, .tmp 33)] [(0, .int .u8 C3), (1, .int .u16 next), (2, .int .u8 D), (3, .bool B3), (4, .bool B4), (6, .bool B6), (7, .int .u8 M7)] (rcC ⟨C3, next, D, B3, B4, 0, B6, M7⟩) ?_ ?_ ?_ hb7.out ?_); kernel_rfl; rfl; (simp only [List.map_toArray, List.map_cons, List.map_nil]; rfl))
      | ((with_reducible refine gen_world (y0.alloc (.cells (rcC zR) 45)) (Fm w [(w.heap.size, rcC zR, 45), (y0.heap.size, rcC zR, 45)]) ?_ ?_); exact K0.out.1.new _ _; intro y3 K3)
      | ((with_reducible refine at_st rtR y0.heap.size (rcC zR) (rcC ⟨C3, next, D, B3, B4, 0, B6, M7⟩) ?_ ?_ ?_ ?_ (.tmp 7) (.tmp 34) ?_ ?_ ?_ ?_ ?_); exact K3.out.bx 1 _ _ _ rfl; rfl; rfl; exact rcC_one _; rfl; rfl; rfl; rfl; intro y4 hw4; have K4 : Hid (Fm w [(w.heap.size, rcC zR, 45), (y0.heap.size, rcC ⟨C3, next, D, B3, B4, 0, B6, M7⟩, 45)] y4) := K3.out.put 1 _ _ _ _ rfl hw4.out; refine stopAt ?_)
      | (go_at_call 23; refine (need_ok y0).mono ?_; rintro e y ⟨rfl, hy⟩; replace hy := hy.symm; subst hy)
)
      refine Stop.go ?_
      obtain ⟨b2, hb2⟩ : ∃ b, y0.heap.size = b := ⟨_, rfl⟩
      rw [hb2] at K4 ⊢
      clear hb2 c0 c1
      go_wp2_with (first
      | (go_at_call 23; refine (need_no y4).mono ?_; rintro e y ⟨rfl, hy⟩; replace hy := hy.symm; subst hy))
      exact ⟨rfl, rfl, K4.out.low⟩
    · obtain ⟨x2, x3, x4, r, ht⟩ : ∃ x2 x3 x4 r, t = x2 :: x3 :: x4 :: r := by
        have h : 3 ≤ t.length := by have : (x0 :: x1 :: t).length = n := by rw [← hlt]; exact hn'
                                    simp at this; omega
        match t, h with
        | a :: b :: c :: r, _ => exact ⟨a, b, c, r, rfl⟩
      have q5 : decide (5 ≤ (n : Int)) = true := by simp; omega
      have hx2 : l[2]? = some x2 := by rw [hlt, ht]; rfl
      have hx3 : l[3]? = some x3 := by rw [hlt, ht]; rfl
      have hx4 : l[4]? = some x4 := by rw [hlt, ht]; rfl
      have lt2 := UInt8.toNat_lt x2
      have lt3 := UInt8.toNat_lt x3
      have lt4 := UInt8.toNat_lt x4
      rw [if_pos hfar, ht] at hone
      simp only at hone
      rw [ok_far N hfar (by simpa using lt0)] at hone
      obtain ⟨X2, hX2⟩ : ∃ x : Int, (x2.toNat : Int) = x := ⟨_, rfl⟩
      obtain ⟨X3, hX3⟩ : ∃ x : Int, (x3.toNat : Int) = x := ⟨_, rfl⟩
      obtain ⟨E, hE⟩ : ∃ x : Int, (x4.toNat : Int) = x := ⟨_, rfl⟩
      rw [hX2, hX3, hE, hDD] at hone
      have hWd := fun v => word_any X3 X2 v (by omega) (by omega) (by omega) (by omega)
      obtain ⟨AD, hAD⟩ : ∃ x, X2 + 256 * X3 = x := ⟨_, rfl⟩
      rw [hAD] at hone
      simp only [hAD] at hWd
      rw [hrec.out] at hone
      have hS : Hid (∀ z, Below w.heap.size w z → (fun z => z.cell? ⟨g, o + 1, none⟩ = some (.int .u8 D) ∧ z.cell? ⟨g, o + 2, none⟩ = some (.int .u8 X2) ∧ z.cell? ⟨g, o + 3, none⟩ = some (.int .u8 X3) ∧ z.cell? ⟨g, o + 4, none⟩ = some (.int .u8 E)) z) := fun z hz => by
        have h1 := (hl.out.below hz).at1 hx1.out
        have h2 := (hl.out.below hz).at1 hx2
        have h3 := (hl.out.below hz).at1 hx3
        have h4 := (hl.out.below hz).at1 hx4
        rw [hDD] at h1
        rw [hX2] at h2
        rw [hX3] at h3
        rw [hE] at h4
        exact ⟨h1, h2, h3, h4⟩
      have i2 : ∀ v, (Instr.indexAt 23 (.slice (some ⟨g, o, none⟩) n cap) (.int .i64 2)).run Tryd.prog v = .ok (.pointer (some ⟨g, o + 2, none⟩)) v := fun v => idxB g o n cap 2 (by omega) v
      have i3 : ∀ v, (Instr.indexAt 23 (.slice (some ⟨g, o, none⟩) n cap) (.int .i64 3)).run Tryd.prog v = .ok (.pointer (some ⟨g, o + 3, none⟩)) v := fun v => idxB g o n cap 3 (by omega) v
      have i4 : ∀ v, (Instr.indexAt 23 (.slice (some ⟨g, o, none⟩) n cap) (.int .i64 4)).run Tryd.prog v = .ok (.pointer (some ⟨g, o + 4, none⟩)) v := fun v => idxB g o n cap 4 (by omega) v
      have hM := fun v => may_any v ⟨C3, AD, E, B3, B4, D, B6, M7⟩
      have hA := fun v => far_any v ⟨C3, AD, E, B3, B4, D, B6, M7⟩ next
      obtain ⟨bm, hbm⟩ : ∃ b, mayR ⟨C3, AD, E, B3, B4, D, B6, M7⟩ = b := ⟨_, rfl⟩
      obtain ⟨bf, hbf⟩ : ∃ b, farR ⟨C3, AD, E, B3, B4, D, B6, M7⟩ next = b := ⟨_, rfl⟩
      simp only [hbm] at hM
      simp only [hbf] at hA
      rw [hbm, hbf] at hone
      rw [hone.out, hn']
      obtain ⟨EE, hEE⟩ : ∃ x, endE (if (bm && bf) = true then some (⟨C3, AD, E, B3, B4, D, B6, M7⟩, 5) else none) = x := ⟨_, rfl⟩
      rw [hEE]
      replace hEE : Hid _ := hEE
      clear hone hbm hbf hfar hn hn' h2 h5 hlt ht lt0 lt1 lt2 lt3 lt4 hN hhN hDD hM7 hB3 hB4 hB6 A3 A4 A8 A16 A96 A128 hC3 hX2 hX3 hE hAD hx2 hx3 hx4
      go_enter Tryd.func28, Tryd.ntmps28
      go_wp2_with (first
      | ((with_reducible refine gen_world (w.alloc (.cells (rcC zR) 45)) (fun z => Fm w [(w.heap.size, rcC zR, 45)] z ∧ z.heap.size = w.heap.size + 1) hF.out ?_); intro y0 K0; have c0 := (hl.out.below K0.out.1.low).at0 hx0.out; have c1 := (hl.out.below K0.out.1.low).at1 hx1.out; rw [hh.out] at c0; rw [hD.out] at c1)
      | ((with_reducible refine at_bu #[(0, .tmp 17), (1, .tmp 18), (2, .tmp 21), (3, .tmp 24), (4, .tmp 27), (6, .tmp 30), (7, .tmp 33)] [(0, .int .u8 C3), (1, .int .u16 next), (2, .int .u8 D), (3, .bool B3), (4, .bool B4), (6, .bool B6), (7, .int .u8 M7)] (rcC ⟨C3, next, D, B3, B4, 0, B6, M7⟩) ?_ ?_ ?_ hb7.out ?_); kernel_rfl; rfl; (simp only [List.map_toArray, List.map_cons, List.map_nil]; rfl))
      | ((with_reducible refine gen_world (y0.alloc (.cells (rcC zR) 45)) (Fm w [(w.heap.size, rcC zR, 45), (y0.heap.size, rcC zR, 45)]) ?_ ?_); exact K0.out.1.new _ _; intro y3 K3)
      | ((with_reducible refine at_st rtR y0.heap.size (rcC zR) (rcC ⟨C3, next, D, B3, B4, 0, B6, M7⟩) ?_ ?_ ?_ ?_ (.tmp 7) (.tmp 34) ?_ ?_ ?_ ?_ ?_); exact K3.out.bx 1 _ _ _ rfl; rfl; rfl; exact rcC_one _; rfl; rfl; rfl; rfl; intro y4 hw4; have K4 : Hid (Fm w [(w.heap.size, rcC zR, 45), (y0.heap.size, rcC ⟨C3, next, D, B3, B4, 0, B6, M7⟩, 45)] y4) := K3.out.put 1 _ _ _ _ rfl hw4.out; refine stopAt ?_)
      | (go_at_call 23; refine (need_ok y0).mono ?_; rintro e y ⟨rfl, hy⟩; replace hy := hy.symm; subst hy)
)
      refine Stop.go ?_
      obtain ⟨b2, hb2⟩ : ∃ b, y0.heap.size = b := ⟨_, rfl⟩
      rw [hb2] at K4 ⊢
      clear hb2 c0 c1
      go_wp2_with (first
      | (go_at_call 23; refine (need_ok y4).mono ?_; rintro e y ⟨rfl, hy⟩; replace hy := hy.symm; subst hy))
      have KZ : Hid (Fm w [(w.heap.size, rcC zR, 45), (b2, rcC ⟨C3, next, D, B3, B4, 0, B6, M7⟩, 45)] y4.drew) := K4.out.below (below_drew (Below.refl _ _))
      refine wp_region_held_drew (S := fun z => z.cell? ⟨g, o + 1, none⟩ = some (.int .u8 D) ∧ z.cell? ⟨g, o + 2, none⟩ = some (.int .u8 X2) ∧ z.cell? ⟨g, o + 3, none⟩ = some (.int .u8 X3) ∧ z.cell? ⟨g, o + 4, none⟩ = some (.int .u8 E)) (by kernel_rfl) (hS.out _ KZ.out.low) (fun hH => ?_)
      generalize y4.drew = z0 at hH KZ ⊢
      refine wpAnyH_take (i := 0) (v := .slice (some ⟨g, o, none⟩) n cap) rfl (by decide +kernel) (by decide +kernel) (by decide +kernel) (fun _ _ _ h => h) (.inl ⟨by kernel_rfl, fun u hu => by obtain ⟨u1, u2, u3, u4⟩ := hu; go_simp⟩) hH ?_
      try simp only [Act.put, List.setIfInBounds_toArray]
      refine wpAnyH_take (i := 1) (v := .pointer (some ⟨g, o + 1, none⟩)) rfl (by decide +kernel) (by decide +kernel) (by decide +kernel) (fun _ _ _ h => h) (.inl ⟨by kernel_rfl, fun u hu => by obtain ⟨u1, u2, u3, u4⟩ := hu; go_simp⟩) hH ?_
      try simp only [Act.put]
      refine wpAnyH_take (i := 2) (v := .int .u8 D) rfl (by decide +kernel) (by decide +kernel) (by decide +kernel) (fun _ _ _ h => h) (.inl ⟨by kernel_rfl, fun u hu => by obtain ⟨u1, u2, u3, u4⟩ := hu; go_simp⟩) hH ?_
      try simp only [Act.put]
      refine wpAnyH_take (i := 3) (v := .slice (some ⟨g, o, none⟩) n cap) rfl (by decide +kernel) (by decide +kernel) (by decide +kernel) (fun _ _ _ h => h) (.inl ⟨by kernel_rfl, fun u hu => by obtain ⟨u1, u2, u3, u4⟩ := hu; go_simp⟩) hH ?_
      try simp only [Act.put]
      refine wpAnyH_take (i := 4) (v := .pointer (some ⟨g, o + 3, none⟩)) rfl (by decide +kernel) (by decide +kernel) (by decide +kernel) (fun _ _ _ h => h) (.inl ⟨by kernel_rfl, fun u hu => by obtain ⟨u1, u2, u3, u4⟩ := hu; go_simp⟩) hH ?_
      try simp only [Act.put]
      refine wpAnyH_take (i := 5) (v := .int .u8 X3) rfl (by decide +kernel) (by decide +kernel) (by decide +kernel) (fun _ _ _ h => h) (.inl ⟨by kernel_rfl, fun u hu => by obtain ⟨u1, u2, u3, u4⟩ := hu; go_simp⟩) hH ?_
      try simp only [Act.put]
      refine wpAnyH_take (i := 6) (v := .slice (some ⟨g, o, none⟩) n cap) rfl (by decide +kernel) (by decide +kernel) (by decide +kernel) (fun _ _ _ h => h) (.inl ⟨by kernel_rfl, fun u hu => by obtain ⟨u1, u2, u3, u4⟩ := hu; go_simp⟩) hH ?_
      try simp only [Act.put]
      refine wpAnyH_take (i := 7) (v := .pointer (some ⟨g, o + 2, none⟩)) rfl (by decide +kernel) (by decide +kernel) (by decide +kernel) (fun _ _ _ h => h) (.inl ⟨by kernel_rfl, fun u hu => by obtain ⟨u1, u2, u3, u4⟩ := hu; go_simp⟩) hH ?_
      try simp only [Act.put]
      refine wpAnyH_take (i := 8) (v := .int .u8 X2) rfl (by decide +kernel) (by decide +kernel) (by decide +kernel) (fun _ _ _ h => h) (.inl ⟨by kernel_rfl, fun u hu => by obtain ⟨u1, u2, u3, u4⟩ := hu; go_simp⟩) hH ?_
      try simp only [Act.put]
      refine wpAnyH_take (i := 10) (v := .slice (some ⟨g, o, none⟩) n cap) rfl (by decide +kernel) (by decide +kernel) (by decide +kernel) (fun _ _ _ h => h) (.inl ⟨by kernel_rfl, fun u hu => by obtain ⟨u1, u2, u3, u4⟩ := hu; go_simp⟩) hH ?_
      try simp only [Act.put]
      refine wpAnyH_take (i := 11) (v := .pointer (some ⟨g, o + 4, none⟩)) rfl (by decide +kernel) (by decide +kernel) (by decide +kernel) (fun _ _ _ h => h) (.inl ⟨by kernel_rfl, fun u hu => by obtain ⟨u1, u2, u3, u4⟩ := hu; go_simp⟩) hH ?_
      try simp only [Act.put]
      refine wpAnyH_take (i := 12) (v := .int .u8 E) rfl (by decide +kernel) (by decide +kernel) (by decide +kernel) (fun _ _ _ h => h) (.inl ⟨by kernel_rfl, fun u hu => by obtain ⟨u1, u2, u3, u4⟩ := hu; go_simp⟩) hH ?_
      try simp only [Act.put]
      refine wpAnyH_take (i := 13) (v := .pointer (some ⟨b2, 5, none⟩)) rfl (by decide +kernel) (by decide +kernel) (by decide +kernel) (fun _ _ _ h => h) (.inl ⟨by kernel_rfl, fun u hu => by obtain ⟨u1, u2, u3, u4⟩ := hu; go_simp⟩) hH ?_
      try simp only [Act.put]
      refine wpAnyH_ready (rs := [9]) (by kernel_rfl) (by simp) (AllReadyH.cons rfl (fun K hK => ?_) AllReadyH.nil)
      rw [if_pos (by rfl)]
      go_wp2_with (go_at_call 56; refine (hWd z0).mono ?_; rintro e u ⟨rfl, hu⟩; replace hu := hu.symm; subst hu)
      refine hK.out _ _ hH (fun hH => ?_)
      clear hK K
      try simp only [Act.put, List.setIfInBounds_toArray, List.set_cons_zero, List.set_cons_succ]
      have K14 : Hid (Fm w [(w.heap.size, rcC zR, 45), (b2, rcC ⟨C3, next, D, B3, B4, D, B6, M7⟩, 45)] (z0.setCell ⟨b2, 5, none⟩ (.int .u8 D))) := KZ.out.setCell 1 b2 _ (rcC ⟨C3, next, D, B3, B4, D, B6, M7⟩) _ rfl 5 _ rfl
      have c14 := (KZ.out.bx 1 _ _ _ rfl).c 5 _ rfl
      have f14 := (KZ.out.bx 1 _ _ _ rfl).fz 5
      refine wpAnyH_ready (rs := [14]) (by kernel_rfl) (by simp) (AllReadyH.cons rfl (fun K hK => ?_) AllReadyH.nil)
      rw [if_pos (by rfl)]
      go_wp2
      refine hK.out _ _ (hS.out _ K14.out.low) (fun hH => ?_)
      clear hK K c14 f14
      try simp only [Act.put, List.setIfInBounds_toArray, List.set_cons_zero, List.set_cons_succ]
      generalize z0.setCell ⟨b2, 5, none⟩ (.int .u8 D) = z1 at K14 hH ⊢
      refine wpAnyH_take (i := 15) (v := .pointer (some ⟨b2, 1, none⟩)) rfl (by decide +kernel) (by decide +kernel) (by decide +kernel) (fun _ _ _ h => h) (.inl ⟨by kernel_rfl, fun u hu => by obtain ⟨u1, u2, u3, u4⟩ := hu; go_simp⟩) hH ?_
      try simp only [Act.put, List.setIfInBounds_toArray]
      have K16 : Hid (Fm w [(w.heap.size, rcC zR, 45), (b2, rcC ⟨C3, AD, D, B3, B4, D, B6, M7⟩, 45)] (z1.setCell ⟨b2, 1, none⟩ (.int .u16 AD))) := K14.out.setCell 1 b2 _ (rcC ⟨C3, AD, D, B3, B4, D, B6, M7⟩) _ rfl 1 _ rfl
      have c16 := (K14.out.bx 1 _ _ _ rfl).c 1 _ rfl
      have f16 := (K14.out.bx 1 _ _ _ rfl).fz 1
      refine wpAnyH_ready (rs := [16]) (by kernel_rfl) (by simp) (AllReadyH.cons rfl (fun K hK => ?_) AllReadyH.nil)
      rw [if_pos (by rfl)]
      go_wp2
      refine hK.out _ _ (hS.out _ K16.out.low) (fun hH => ?_)
      clear hK K c16 f16
      try simp only [Act.put, List.setIfInBounds_toArray, List.set_cons_zero, List.set_cons_succ]
      generalize z1.setCell ⟨b2, 1, none⟩ (.int .u16 AD) = z2 at K16 hH ⊢
      refine wpAnyH_take (i := 17) (v := .pointer (some ⟨b2, 2, none⟩)) rfl (by decide +kernel) (by decide +kernel) (by decide +kernel) (fun _ _ _ h => h) (.inl ⟨by kernel_rfl, fun u hu => by obtain ⟨u1, u2, u3, u4⟩ := hu; go_simp⟩) hH ?_
      try simp only [Act.put, List.setIfInBounds_toArray]
      have K18 : Hid (Fm w [(w.heap.size, rcC zR, 45), (b2, rcC ⟨C3, AD, E, B3, B4, D, B6, M7⟩, 45)] (z2.setCell ⟨b2, 2, none⟩ (.int .u8 E))) := K16.out.setCell 1 b2 _ (rcC ⟨C3, AD, E, B3, B4, D, B6, M7⟩) _ rfl 2 _ rfl
      have c18 := (K16.out.bx 1 _ _ _ rfl).c 2 _ rfl
      have f18 := (K16.out.bx 1 _ _ _ rfl).fz 2
      refine wpAnyH_ready (rs := [18]) (by kernel_rfl) (by simp) (AllReadyH.cons rfl (fun K hK => ?_) AllReadyH.nil)
      rw [if_pos (by rfl)]
      go_wp2
      refine hK.out _ _ (hS.out _ K18.out.low) (fun hH => ?_)
      clear hK K c18 f18
      try simp only [Act.put, List.setIfInBounds_toArray, List.set_cons_zero, List.set_cons_succ]
      generalize z2.setCell ⟨b2, 2, none⟩ (.int .u8 E) = z3 at K18 hH ⊢
      refine wpAnyH_done (by kernel_rfl) ?_ _
      clear hH KZ K14 K16
      cases bf
      · go_wp2_with (first
      | (go_at_call 23; refine (need_no z5).mono ?_; rintro e y ⟨rfl, hy⟩; replace hy := hy.symm; subst hy)
      | ((with_reducible refine at_load rtR b2 (rcC ⟨C3, AD, E, B3, B4, D, B6, M7⟩) ?_ ?_ (.tmp 7) ?_ ?_ ?_ ?_); exact K18.out.bx 1 _ _ _ rfl; rfl; kernel_rfl; rfl; rfl)
      | (go_at_call 51; refine (hA z3).mono ?_; rintro e z5 ⟨rfl, hb5⟩; have K5 : Hid (Fm w [(w.heap.size, rcC zR, 45), (b2, rcC ⟨C3, AD, E, B3, B4, D, B6, M7⟩, 45)] z5) := K18.out.below hb5; clear hb5))
        exact ⟨rfl, by rw [← hEE.out]; cases bm <;> rfl, K5.out.low⟩
      · cases bm
        · go_wp2_with (first
      | (go_at_call 23; refine (need_no z6).mono ?_; rintro e y ⟨rfl, hy⟩; replace hy := hy.symm; subst hy)
      | (go_at_call 23; refine (need_ok z5).mono ?_; rintro e y ⟨rfl, hy⟩; replace hy := hy.symm; subst hy)
      | ((with_reducible refine at_load rtR b2 (rcC ⟨C3, AD, E, B3, B4, D, B6, M7⟩) ?_ ?_ (.tmp 7) ?_ ?_ ?_ ?_); exact K5.out.bx 1 _ _ _ rfl; rfl; kernel_rfl; rfl; rfl)
      | ((with_reducible refine at_load rtR b2 (rcC ⟨C3, AD, E, B3, B4, D, B6, M7⟩) ?_ ?_ (.tmp 7) ?_ ?_ ?_ ?_); exact K18.out.bx 1 _ _ _ rfl; rfl; kernel_rfl; rfl; rfl)
      | (go_at_call 30; refine (hM z5).mono ?_; rintro e z6 ⟨rfl, hb5⟩; have K6 : Hid (Fm w [(w.heap.size, rcC zR, 45), (b2, rcC ⟨C3, AD, E, B3, B4, D, B6, M7⟩, 45)] z6) := K5.out.below hb5; clear hb5)
      | (go_at_call 51; refine (hA z3).mono ?_; rintro e z5 ⟨rfl, hb5⟩; have K5 : Hid (Fm w [(w.heap.size, rcC zR, 45), (b2, rcC ⟨C3, AD, E, B3, B4, D, B6, M7⟩, 45)] z5) := K18.out.below hb5; clear hb5))
          exact ⟨rfl, by rw [← hEE.out]; rfl, K6.out.low⟩
        · go_wp2_with (first
      | ((with_reducible refine at_st rtR w.heap.size (rcC zR) (rcC ⟨C3, AD, E, B3, B4, D, B6, M7⟩) ?_ ?_ ?_ ?_ (.tmp 4) (.tmp 65) ?_ ?_ ?_ ?_ ?_); exact K6.out.bx 0 _ _ _ rfl; rfl; rfl; exact rcC_one _; rfl; rfl; rfl; rfl; intro y9 hw9; have K9 : Hid (Fm w [(w.heap.size, rcC ⟨C3, AD, E, B3, B4, D, B6, M7⟩, 45), (b2, rcC ⟨C3, AD, E, B3, B4, D, B6, M7⟩, 45)] y9) := K6.out.put 0 _ _ _ _ rfl hw9.out)
      | (go_at_call 23; refine (need_ok z6).mono ?_; rintro e y ⟨rfl, hy⟩; replace hy := hy.symm; subst hy)
      | (go_at_call 23; refine (need_ok z5).mono ?_; rintro e y ⟨rfl, hy⟩; replace hy := hy.symm; subst hy)
      | ((with_reducible refine at_load rtR b2 (rcC ⟨C3, AD, E, B3, B4, D, B6, M7⟩) ?_ ?_ (.tmp 7) ?_ ?_ ?_ ?_); exact K6.out.bx 1 _ _ _ rfl; rfl; kernel_rfl; rfl; rfl)
      | ((with_reducible refine at_load rtR b2 (rcC ⟨C3, AD, E, B3, B4, D, B6, M7⟩) ?_ ?_ (.tmp 7) ?_ ?_ ?_ ?_); exact K5.out.bx 1 _ _ _ rfl; rfl; kernel_rfl; rfl; rfl)
      | ((with_reducible refine at_load rtR b2 (rcC ⟨C3, AD, E, B3, B4, D, B6, M7⟩) ?_ ?_ (.tmp 7) ?_ ?_ ?_ ?_); exact K18.out.bx 1 _ _ _ rfl; rfl; kernel_rfl; rfl; rfl)
      | (go_at_call 30; refine (hM z5).mono ?_; rintro e z6 ⟨rfl, hb5⟩; have K6 : Hid (Fm w [(w.heap.size, rcC zR, 45), (b2, rcC ⟨C3, AD, E, B3, B4, D, B6, M7⟩, 45)] z6) := K5.out.below hb5; clear hb5)
      | (go_at_call 51; refine (hA z3).mono ?_; rintro e z5 ⟨rfl, hb5⟩; have K5 : Hid (Fm w [(w.heap.size, rcC zR, 45), (b2, rcC ⟨C3, AD, E, B3, B4, D, B6, M7⟩, 45)] z5) := K18.out.below hb5; clear hb5))
          exact ret_row2 rtR rfl rfl rfl (K9.out.bx 0 _ _ _ rfl) rfl rfl ⟨by rw [← hEE.out]; rfl, K9.out.low⟩
  · have b128' : b128 = false := by rw [← hb128, A128]; simpa using hfar
    subst b128'
    have hM := fun v => may_any v ⟨C3, next, D, B3, B4, 0, B6, M7⟩
    rw [if_neg hfar, ok_near N (by omega), hrec.out, hDD] at hone
    obtain ⟨bm, hbm⟩ : ∃ b, mayR ⟨C3, next, D, B3, B4, 0, B6, M7⟩ = b := ⟨_, rfl⟩
    simp only [hbm] at hM
    rw [hbm] at hone
    rw [hone.out, hn']
    clear hone hbm hfar hn hn' h2 hlt lt0 lt1 hN hhN hDD hM7 hB3 hB4 hB6 A3 A4 A8 A16 A96 A128 hC3
    cases bm
    · simp only [Bool.false_eq_true, if_false]
      go_enter Tryd.func28, Tryd.ntmps28
      go_wp2_with (first
      | ((with_reducible refine gen_world (w.alloc (.cells (rcC zR) 45)) (fun z => Fm w [(w.heap.size, rcC zR, 45)] z ∧ z.heap.size = w.heap.size + 1) hF.out ?_); intro y0 K0; have c0 := (hl.out.below K0.out.1.low).at0 hx0.out; have c1 := (hl.out.below K0.out.1.low).at1 hx1.out; rw [hh.out] at c0; rw [hD.out] at c1)
      | ((with_reducible refine at_bu #[(0, .tmp 17), (1, .tmp 18), (2, .tmp 21), (3, .tmp 24), (4, .tmp 27), (6, .tmp 30), (7, .tmp 33)] [(0, .int .u8 C3), (1, .int .u16 next), (2, .int .u8 D), (3, .bool B3), (4, .bool B4), (6, .bool B6), (7, .int .u8 M7)] (rcC ⟨C3, next, D, B3, B4, 0, B6, M7⟩) ?_ ?_ ?_ hb7.out ?_); kernel_rfl; rfl; (simp only [List.map_toArray, List.map_cons, List.map_nil]; rfl))
      | ((with_reducible refine gen_world (y0.alloc (.cells (rcC zR) 45)) (Fm w [(w.heap.size, rcC zR, 45), (y0.heap.size, rcC zR, 45)]) ?_ ?_); exact K0.out.1.new _ _; intro y3 K3)
      | ((with_reducible refine at_st rtR y0.heap.size (rcC zR) (rcC ⟨C3, next, D, B3, B4, 0, B6, M7⟩) ?_ ?_ ?_ ?_ (.tmp 7) (.tmp 34) ?_ ?_ ?_ ?_ ?_); exact K3.out.bx 1 _ _ _ rfl; rfl; rfl; exact rcC_one _; rfl; rfl; rfl; rfl; intro y4 hw4; have K4 : Hid (Fm w [(w.heap.size, rcC zR, 45), (y0.heap.size, rcC ⟨C3, next, D, B3, B4, 0, B6, M7⟩, 45)] y4) := K3.out.put 1 _ _ _ _ rfl hw4.out; refine stopAt ?_)
      | (go_at_call 23; refine (need_ok y0).mono ?_; rintro e y ⟨rfl, hy⟩; replace hy := hy.symm; subst hy)
)
      refine Stop.go ?_
      obtain ⟨b2, hb2⟩ : ∃ b, y0.heap.size = b := ⟨_, rfl⟩
      rw [hb2] at K4 ⊢
      clear hb2 c0 c1
      go_wp2_with (first
      | (go_at_call 23; refine (need_no y5).mono ?_; rintro e y ⟨rfl, hy⟩; replace hy := hy.symm; subst hy)
      | ((with_reducible refine at_load rtR b2 (rcC ⟨C3, next, D, B3, B4, 0, B6, M7⟩) ?_ ?_ (.tmp 7) ?_ ?_ ?_ ?_); exact K4.out.bx 1 _ _ _ rfl; rfl; kernel_rfl; rfl; rfl)
      | (go_at_call 30; refine (hM y4).mono ?_; rintro e y5 ⟨rfl, hb5⟩; have K5 : Hid (Fm w [(w.heap.size, rcC zR, 45), (b2, rcC ⟨C3, next, D, B3, B4, 0, B6, M7⟩, 45)] y5) := K4.out.below hb5; clear hb5))
      exact ⟨rfl, rfl, K5.out.low⟩
    · simp only [if_true]
      go_enter Tryd.func28, Tryd.ntmps28
      go_wp2_with (first
      | ((with_reducible refine gen_world (w.alloc (.cells (rcC zR) 45)) (fun z => Fm w [(w.heap.size, rcC zR, 45)] z ∧ z.heap.size = w.heap.size + 1) hF.out ?_); intro y0 K0; have c0 := (hl.out.below K0.out.1.low).at0 hx0.out; have c1 := (hl.out.below K0.out.1.low).at1 hx1.out; rw [hh.out] at c0; rw [hD.out] at c1)
      | ((with_reducible refine at_bu #[(0, .tmp 17), (1, .tmp 18), (2, .tmp 21), (3, .tmp 24), (4, .tmp 27), (6, .tmp 30), (7, .tmp 33)] [(0, .int .u8 C3), (1, .int .u16 next), (2, .int .u8 D), (3, .bool B3), (4, .bool B4), (6, .bool B6), (7, .int .u8 M7)] (rcC ⟨C3, next, D, B3, B4, 0, B6, M7⟩) ?_ ?_ ?_ hb7.out ?_); kernel_rfl; rfl; (simp only [List.map_toArray, List.map_cons, List.map_nil]; rfl))
      | ((with_reducible refine gen_world (y0.alloc (.cells (rcC zR) 45)) (Fm w [(w.heap.size, rcC zR, 45), (y0.heap.size, rcC zR, 45)]) ?_ ?_); exact K0.out.1.new _ _; intro y3 K3)
      | ((with_reducible refine at_st rtR y0.heap.size (rcC zR) (rcC ⟨C3, next, D, B3, B4, 0, B6, M7⟩) ?_ ?_ ?_ ?_ (.tmp 7) (.tmp 34) ?_ ?_ ?_ ?_ ?_); exact K3.out.bx 1 _ _ _ rfl; rfl; rfl; exact rcC_one _; rfl; rfl; rfl; rfl; intro y4 hw4; have K4 : Hid (Fm w [(w.heap.size, rcC zR, 45), (y0.heap.size, rcC ⟨C3, next, D, B3, B4, 0, B6, M7⟩, 45)] y4) := K3.out.put 1 _ _ _ _ rfl hw4.out; refine stopAt ?_)
      | (go_at_call 23; refine (need_ok y0).mono ?_; rintro e y ⟨rfl, hy⟩; replace hy := hy.symm; subst hy)
)
      refine Stop.go ?_
      obtain ⟨b2, hb2⟩ : ∃ b, y0.heap.size = b := ⟨_, rfl⟩
      rw [hb2] at K4 ⊢
      clear hb2 c0 c1
      go_wp2_with (first
      | ((with_reducible refine at_st rtR w.heap.size (rcC zR) (rcC ⟨C3, next, D, B3, B4, 0, B6, M7⟩) ?_ ?_ ?_ ?_ (.tmp 4) (.tmp 65) ?_ ?_ ?_ ?_ ?_); exact K5.out.bx 0 _ _ _ rfl; rfl; rfl; exact rcC_one _; rfl; rfl; rfl; rfl; intro y9 hw9; have K9 : Hid (Fm w [(w.heap.size, rcC ⟨C3, next, D, B3, B4, 0, B6, M7⟩, 45), (b2, rcC ⟨C3, next, D, B3, B4, 0, B6, M7⟩, 45)] y9) := K5.out.put 0 _ _ _ _ rfl hw9.out)
      | (go_at_call 23; refine (need_ok y5).mono ?_; rintro e y ⟨rfl, hy⟩; replace hy := hy.symm; subst hy)
      | ((with_reducible refine at_load rtR b2 (rcC ⟨C3, next, D, B3, B4, 0, B6, M7⟩) ?_ ?_ (.tmp 7) ?_ ?_ ?_ ?_); exact K5.out.bx 1 _ _ _ rfl; rfl; kernel_rfl; rfl; rfl)
      | ((with_reducible refine at_load rtR b2 (rcC ⟨C3, next, D, B3, B4, 0, B6, M7⟩) ?_ ?_ (.tmp 7) ?_ ?_ ?_ ?_); exact K4.out.bx 1 _ _ _ rfl; rfl; kernel_rfl; rfl; rfl)
      | (go_at_call 30; refine (hM y4).mono ?_; rintro e y5 ⟨rfl, hb5⟩; have K5 : Hid (Fm w [(w.heap.size, rcC zR, 45), (b2, rcC ⟨C3, next, D, B3, B4, 0, B6, M7⟩, 45)] y5) := K4.out.below hb5; clear hb5))
      exact ret_row2 rtR rfl rfl rfl (K9.out.bx 0 _ _ _ rfl) rfl rfl ⟨rfl, K9.out.low⟩
end Go.Proofs.YtoajmicdphffnabDoor
