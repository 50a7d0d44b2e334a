/- Whether two scripts go through the same cycles, as the statements ask it. -/
import Derived.Test.YthpahpfnpapoiabDoorXh
namespace Go.Proofs.YthpahpfnpapoiabDoor
open Go Go.RowKit
set_option linter.unusedVariables false
set_option maxHeartbeats 1000000
set_option maxRecDepth 20000

theorem drop_nil (l : List Sn) {n : Nat} (h : l.length = n) : l.drop n = [] := List.drop_eq_nil_of_le (by omega)
def sameE : List At → List At → Bool
  | [], [] => true
  | x :: a, y :: b => atB x y && sameE a b
  | _, _ => false
theorem sameE_iff (a : List At) : ∀ b, sameE a b = true ↔ a = b := by
  induction a with
  | nil => intro b; cases b <;> simp [sameE]
  | cons x a ih => intro b; cases b <;> simp [sameE, ih, atB_iff]
def flatB (a b : List Sn) : Bool := sameE (expand a) (expand b)
/-- The cycles behind in the first span that is left. -/
def Rm (l : List Sn) (u : Int) : Prop := match l with | [] => u = 0 | s :: _ => 0 ≤ u ∧ u < s.c
theorem Rm.zero {l : List Sn} (h : Pos l) : Rm l 0 := by
  cases l with
  | nil => rfl
  | cons s l => exact ⟨Int.le_refl _, by have := h.1; omega⟩
theorem sameE_congr {a b c d : List At} (h : a = b ↔ c = d) : sameE a b = sameE c d := by
  rw [Bool.eq_iff_iff, sameE_iff, sameE_iff]
  exact h
theorem sameE_no {a b : List At} (h : a ≠ b) : sameE a b = false := by
  cases hs : sameE a b
  · rfl
  · exact absurd ((sameE_iff a b).1 hs) h
theorem flat_any (w : World) (pa pb : Option Addr) (ca cb : Nat) (a b : List Sn) (ha : Hid (LiesS w pa a)) (hb : Hid (LiesS w pb b)) (hna : a.length ≤ 1000000) (hnb : b.length ≤ 1000000) (hia : Hid (InM 1048576 a)) (hib : Hid (InM 1048576 b)) :
    Calls Tryd.prog 15 #[.slice pa a.length ca, .slice pb b.length cb] w fun e w' => e = .returned (.bool (flatB a b)) ∧ Below w.heap.size w w' := by
  obtain ⟨n, hn⟩ : ∃ n, a.length = n := ⟨_, rfl⟩
  obtain ⟨m, hm⟩ : ∃ m, b.length = m := ⟨_, rfl⟩
  rw [hn] at hna ⊢
  rw [hm] at hnb ⊢
  have ni : (n : Int) ≤ 1000000 := by omega
  have mi : (m : Int) ≤ 1000000 := by omega
  have hn' : Hid (a.length = n) := hn
  have hm' : Hid (b.length = m) := hm
  obtain ⟨R, hR⟩ : ∃ R, flatB a b = R := ⟨_, rfl⟩
  rw [hR]
  have hR' : Hid (R = sameE (remE (a.drop 0) 0) (remE (b.drop 0) 0)) := by show _ = _; rw [← hR, remE_zero, remE_zero]; rfl
  have zz := zeroVS
  obtain ⟨Z, hZ⟩ : ∃ Z, (⟨0, ⟨0, false, false, false, false, false, false, false, 0⟩⟩ : Sn) = Z := ⟨_, rfl⟩
  rw [hZ] at zz
  clear hn hm hna hnb hR hZ
  go_enter Tryd.func15, Tryd.ntmps15
  go_wp2
  go_loopw [5, 6, 7, 8] (fun i k t s wz => ∃ (i' k' : Nat) (u v : Int) (y : World), y = wz ∧ i = .int .i64 (i' : Int) ∧ k = .int .i64 (k' : Int) ∧ t = .int .i64 u ∧ s = .int .i64 v ∧ 0 ≤ u ∧ u ≤ 1048576 ∧ 0 ≤ v ∧ v ≤ 1048576 ∧ Hid (i' ≤ n ∧ k' ≤ m ∧ Rm (a.drop i') u ∧ Rm (b.drop k') v ∧ R = sameE (remE (a.drop i') u) (remE (b.drop k') v)) ∧ Hid (Fm w [] y)) (fun i k _ _ _ => (n - intOf i).toNat + (m - intOf k).toNat)
  case atStart => exact ⟨0, 0, 0, 0, w, rfl, rfl, rfl, rfl, rfl, by decide, by decide, by decide, by decide, ⟨by omega, by omega, Rm.zero hia.out.pos, Rm.zero hib.out.pos, hR'.out⟩, Fm.nil w⟩
  case round =>
    obtain ⟨i, k, u, v, y, rfl, rfl, rfl, rfl, rfl, u0, u1, v0, v1, J, K⟩ := hrel
    clear hR'
    by_cases hia' : i < n
    · by_cases hkb : k < m
      · obtain ⟨s, hs, hds⟩ := at_list hn'.out hia'
        obtain ⟨t, ht, hdt⟩ := at_list hm'.out hkb
        obtain ⟨ga, oa, rfl, RA⟩ := ha.out i s hs
        obtain ⟨gb, ob, rfl, RB⟩ := hb.out k t ht
        obtain ⟨c, sa⟩ := s
        obtain ⟨d, sd⟩ := t
        have RA : Hid (w.rangeAt ga (oa + i * 10) (spC ⟨c, sa⟩).toList) := RA
        have RB : Hid (w.rangeAt gb (ob + k * 10) (spC ⟨d, sd⟩).toList) := RB
        have i1 := fun z => idxP (g := ga) (off := oa) (len := n) (cap := ca) Tryd.underlying22 (s := 10) (by kernel_rfl) .i64 i z hia'
        have i2 := fun z => idxP (g := gb) (off := ob) (len := m) (cap := cb) Tryd.underlying22 (s := 10) (by kernel_rfl) .i64 k z hkb
        have pa' := drop_in hia.out i
        rw [hds] at pa'
        have pb' := drop_in hib.out k
        rw [hdt] at pb'
        obtain ⟨_, _, r1, r2, r3⟩ := J.out
        rw [hds] at r1
        rw [hdt] at r2
        rw [hds, hdt] at r3
        have c1 : c ≤ 1048576 := pa'.1.2
        have d1 : d ≤ 1048576 := pb'.1.2
        have c2 : u < c := r1.2
        have d2 : v < d := r2.2
        have hii : (i : Int) < n := by omega
        have hki : (k : Int) < m := by omega
        have hP : Hid (Pos (a.drop (i + 1)) ∧ Pos (b.drop (k + 1))) := ⟨pa'.2.pos, pb'.2.pos⟩
        have hE := eqS ⟨0, sa⟩ ⟨0, sd⟩
        rw [show snB ⟨0, sa⟩ ⟨0, sd⟩ = atB sa sd by simp [snB]] at hE
        have lt' : Hid (i < n ∧ k < m) := ⟨hia', hkb⟩
        have hds' : Hid (a.drop i = ⟨c, sa⟩ :: a.drop (i + 1)) := hds
        have hdt' : Hid (b.drop k = ⟨d, sd⟩ :: b.drop (k + 1)) := hdt
        obtain ⟨q, hq⟩ : ∃ q, atB sa sd = q := ⟨_, rfl⟩
        rw [hq] at hE
        replace hE : Hid _ := hE
        clear hs ht hds hdt pa' pb' r1 r2 hia' hkb
        cases q
        · have fin : Hid (R = false) := by show R = false; rw [r3]; exact sameE_no (flat_differ _ _ _ _ _ _ (atB_ne hq) c2 d2)
          clear r3 hq
          rcases Int.lt_or_le (d - v) (c - u) with hm2 | hm2
          · have qn : decide (d - v < 1) = false := by simp; omega
            go_wp2_with (first
              | ((with_reducible refine at_loadm rtS ga (oa + i * 10) (spC ⟨c, sa⟩) ?_ ?_ (.tmp 24) ?_ ?_ ?_ ?_); exact range_keep RA.out K.out.low; rfl; kernel_rfl; rfl; rfl)
              | ((with_reducible refine gen_world (y.alloc (.cells (spC Z) 43)) (Fm w [(y.heap.size, spC Z, 43)]) ?_ ?_); exact K.out.new _ _; intro y1 K1)
              | ((with_reducible refine at_st rtS y.heap.size (spC Z) (spC ⟨c, sa⟩) ?_ ?_ ?_ ?_ (.tmp 9) (.tmp 25) ?_ ?_ ?_ ?_ ?_); exact K1.out.bx 0 _ _ _ rfl; rfl; rfl; exact spC_one _; rfl; rfl; rfl; rfl; intro y2 hw2; have K2 : Hid (Fm w [(y.heap.size, spC ⟨c, sa⟩, 43)] y2) := K1.out.put 0 _ _ _ _ rfl hw2.out; refine stopAt ?_))
            refine Stop.go ?_
            go_wp2_with (first
              | ((with_reducible refine at_loadm rtS gb (ob + k * 10) (spC ⟨d, sd⟩) ?_ ?_ (.tmp 28) ?_ ?_ ?_ ?_); exact range_keep RB.out K2.out.low; rfl; kernel_rfl; rfl; rfl)
              | ((with_reducible refine gen_world (y2.alloc (.cells (spC Z) 43)) (Fm w [(y.heap.size, spC ⟨c, sa⟩, 43), (y2.heap.size, spC Z, 43)]) ?_ ?_); exact K2.out.new _ _; intro y3 K3)
              | ((with_reducible refine at_st rtS y2.heap.size (spC Z) (spC ⟨d, sd⟩) ?_ ?_ ?_ ?_ (.tmp 10) (.tmp 29) ?_ ?_ ?_ ?_ ?_); exact K3.out.bx 1 _ _ _ rfl; rfl; rfl; exact spC_one _; rfl; rfl; rfl; rfl; intro y4 hw4; have K4 : Hid (Fm w [(y.heap.size, spC ⟨c, sa⟩, 43), (y2.heap.size, spC ⟨d, sd⟩, 43)] y4) := K3.out.put 1 _ _ _ _ rfl hw4.out; have e1 := (K4.out.bx 0 _ _ _ rfl).c 0 _ (spC_c ⟨c, sa⟩); have e2 := (K4.out.bx 1 _ _ _ rfl).c 0 _ (spC_c ⟨d, sd⟩); dsimp only at e1 e2; have z1 := (K4.out.bx 0 _ _ _ rfl).fz 0; refine stopAt ?_))
            refine Stop.go ?_
            go_wp2_with (first
              | ((with_reducible refine gen_world (y4.setCell ⟨y.heap.size, 0, none⟩ (.int .i64 0)) (Fm w [(y.heap.size, spC ⟨0, sa⟩, 43), (y2.heap.size, spC ⟨d, sd⟩, 43)]) ?_ ?_); exact K4.out.setCell 0 _ _ _ _ rfl 0 _ rfl; intro y5 K5; have e5 := (K5.out.bx 1 _ _ _ rfl).c 0 _ (spC_c ⟨d, sd⟩); dsimp only at e5; have z5 := (K5.out.bx 1 _ _ _ rfl).fz 0)
              | ((with_reducible refine gen_world (y5.setCell ⟨y2.heap.size, 0, none⟩ (.int .i64 0)) (Fm w [(y.heap.size, spC ⟨0, sa⟩, 43), (y2.heap.size, spC ⟨0, sd⟩, 43)]) ?_ ?_); exact K5.out.setCell 1 _ _ _ _ rfl 0 _ rfl; intro y6 K6; have c6 := rangeC (range_keep RA.out K6.out.low) 0 _ (spC_c ⟨c, sa⟩); have d6 := rangeC (range_keep RB.out K6.out.low) 0 _ (spC_c ⟨d, sd⟩); rw [Nat.add_zero] at c6 d6; dsimp only at c6 d6)
              | ((with_reducible refine at_load rtS y.heap.size (spC ⟨0, sa⟩) ?_ ?_ (.tmp 9) ?_ ?_ ?_ ?_); exact K6.out.bx 0 _ _ _ rfl; rfl; kernel_rfl; rfl; rfl)
              | ((with_reducible refine at_load rtS y2.heap.size (spC ⟨0, sd⟩) ?_ ?_ (.tmp 10) ?_ ?_ ?_ ?_); exact K6.out.bx 1 _ _ _ rfl; rfl; kernel_rfl; rfl; rfl)
              | ((with_reducible refine at_ne hE.out (.tmp 44) (.tmp 45) 43 ?_ ?_ ?_ ?_ ?_); kernel_rfl; rfl; rfl; rfl))
            go_ret
            exact ⟨by rw [fin.out]; rfl, K6.out.low⟩
          · have qn : decide (c - u < 1) = false := by simp; omega
            have hm3 : ¬ (d - v < c - u) := by omega
            clear hm2
            go_wp2_with (first
              | ((with_reducible refine at_loadm rtS ga (oa + i * 10) (spC ⟨c, sa⟩) ?_ ?_ (.tmp 24) ?_ ?_ ?_ ?_); exact range_keep RA.out K.out.low; rfl; kernel_rfl; rfl; rfl)
              | ((with_reducible refine gen_world (y.alloc (.cells (spC Z) 43)) (Fm w [(y.heap.size, spC Z, 43)]) ?_ ?_); exact K.out.new _ _; intro y1 K1)
              | ((with_reducible refine at_st rtS y.heap.size (spC Z) (spC ⟨c, sa⟩) ?_ ?_ ?_ ?_ (.tmp 9) (.tmp 25) ?_ ?_ ?_ ?_ ?_); exact K1.out.bx 0 _ _ _ rfl; rfl; rfl; exact spC_one _; rfl; rfl; rfl; rfl; intro y2 hw2; have K2 : Hid (Fm w [(y.heap.size, spC ⟨c, sa⟩, 43)] y2) := K1.out.put 0 _ _ _ _ rfl hw2.out; refine stopAt ?_))
            refine Stop.go ?_
            go_wp2_with (first
              | ((with_reducible refine at_loadm rtS gb (ob + k * 10) (spC ⟨d, sd⟩) ?_ ?_ (.tmp 28) ?_ ?_ ?_ ?_); exact range_keep RB.out K2.out.low; rfl; kernel_rfl; rfl; rfl)
              | ((with_reducible refine gen_world (y2.alloc (.cells (spC Z) 43)) (Fm w [(y.heap.size, spC ⟨c, sa⟩, 43), (y2.heap.size, spC Z, 43)]) ?_ ?_); exact K2.out.new _ _; intro y3 K3)
              | ((with_reducible refine at_st rtS y2.heap.size (spC Z) (spC ⟨d, sd⟩) ?_ ?_ ?_ ?_ (.tmp 10) (.tmp 29) ?_ ?_ ?_ ?_ ?_); exact K3.out.bx 1 _ _ _ rfl; rfl; rfl; exact spC_one _; rfl; rfl; rfl; rfl; intro y4 hw4; have K4 : Hid (Fm w [(y.heap.size, spC ⟨c, sa⟩, 43), (y2.heap.size, spC ⟨d, sd⟩, 43)] y4) := K3.out.put 1 _ _ _ _ rfl hw4.out; have e1 := (K4.out.bx 0 _ _ _ rfl).c 0 _ (spC_c ⟨c, sa⟩); have e2 := (K4.out.bx 1 _ _ _ rfl).c 0 _ (spC_c ⟨d, sd⟩); dsimp only at e1 e2; have z1 := (K4.out.bx 0 _ _ _ rfl).fz 0; refine stopAt ?_))
            refine Stop.go ?_
            go_wp2_with (first
              | ((with_reducible refine gen_world (y4.setCell ⟨y.heap.size, 0, none⟩ (.int .i64 0)) (Fm w [(y.heap.size, spC ⟨0, sa⟩, 43), (y2.heap.size, spC ⟨d, sd⟩, 43)]) ?_ ?_); exact K4.out.setCell 0 _ _ _ _ rfl 0 _ rfl; intro y5 K5; have e5 := (K5.out.bx 1 _ _ _ rfl).c 0 _ (spC_c ⟨d, sd⟩); dsimp only at e5; have z5 := (K5.out.bx 1 _ _ _ rfl).fz 0)
              | ((with_reducible refine gen_world (y5.setCell ⟨y2.heap.size, 0, none⟩ (.int .i64 0)) (Fm w [(y.heap.size, spC ⟨0, sa⟩, 43), (y2.heap.size, spC ⟨0, sd⟩, 43)]) ?_ ?_); exact K5.out.setCell 1 _ _ _ _ rfl 0 _ rfl; intro y6 K6; have c6 := rangeC (range_keep RA.out K6.out.low) 0 _ (spC_c ⟨c, sa⟩); have d6 := rangeC (range_keep RB.out K6.out.low) 0 _ (spC_c ⟨d, sd⟩); rw [Nat.add_zero] at c6 d6; dsimp only at c6 d6)
              | ((with_reducible refine at_load rtS y.heap.size (spC ⟨0, sa⟩) ?_ ?_ (.tmp 9) ?_ ?_ ?_ ?_); exact K6.out.bx 0 _ _ _ rfl; rfl; kernel_rfl; rfl; rfl)
              | ((with_reducible refine at_load rtS y2.heap.size (spC ⟨0, sd⟩) ?_ ?_ (.tmp 10) ?_ ?_ ?_ ?_); exact K6.out.bx 1 _ _ _ rfl; rfl; kernel_rfl; rfl; rfl)
              | ((with_reducible refine at_ne hE.out (.tmp 44) (.tmp 45) 43 ?_ ?_ ?_ ?_ ?_); kernel_rfl; rfl; rfl; rfl))
            go_ret
            exact ⟨by rw [fin.out]; rfl, K6.out.low⟩
        · have ae := (atB_iff sa sd).1 hq
          have r4 : Hid (∀ nn : Int, 0 ≤ nn → nn ≤ c - u → nn ≤ d - v → R = sameE (remE (advL ⟨c, sa⟩ (a.drop (i + 1)) (u + nn)) (advU ⟨c, sa⟩ (u + nn))) (remE (advL ⟨d, sd⟩ (b.drop (k + 1)) (v + nn)) (advU ⟨d, sd⟩ (v + nn)))) := fun nn h0 h1 h2 => by
            rw [r3]
            exact sameE_congr (flat_step ⟨c, sa⟩ ⟨d, sd⟩ _ _ u v nn ae h0 h1 h2)
          clear r3 hq ae
          rcases Int.lt_trichotomy (d - v) (c - u) with hm2 | hm2 | hm2
          · have qn : decide (d - v < 1) = false := by simp; omega
            have fin : Hid (R = sameE (remE (a.drop i) (u + (d - v))) (remE (b.drop (k + 1)) 0) ∧ Rm (a.drop i) (u + (d - v)) ∧ Rm (b.drop (k + 1)) 0) := by
              have := r4.out (d - v) (by omega) (by omega) (by omega)
              unfold advL advU at this
              dsimp only at this
              rw [if_neg (by omega), if_neg (by omega), if_pos (by omega), if_pos (by omega)] at this
              rw [hds'.out]
              exact ⟨this, ⟨by omega, by show u + (d - v) < c; omega⟩, Rm.zero hP.out.2⟩
            have q1 : (u + (d - v) == c) = false := by simp; omega
            have q2 : (v + (d - v) == d) = true := by simp; omega
            clear r4
            go_wp2_with (first
              | ((with_reducible refine at_loadm rtS ga (oa + i * 10) (spC ⟨c, sa⟩) ?_ ?_ (.tmp 24) ?_ ?_ ?_ ?_); exact range_keep RA.out K.out.low; rfl; kernel_rfl; rfl; rfl)
              | ((with_reducible refine gen_world (y.alloc (.cells (spC Z) 43)) (Fm w [(y.heap.size, spC Z, 43)]) ?_ ?_); exact K.out.new _ _; intro y1 K1)
              | ((with_reducible refine at_st rtS y.heap.size (spC Z) (spC ⟨c, sa⟩) ?_ ?_ ?_ ?_ (.tmp 9) (.tmp 25) ?_ ?_ ?_ ?_ ?_); exact K1.out.bx 0 _ _ _ rfl; rfl; rfl; exact spC_one _; rfl; rfl; rfl; rfl; intro y2 hw2; have K2 : Hid (Fm w [(y.heap.size, spC ⟨c, sa⟩, 43)] y2) := K1.out.put 0 _ _ _ _ rfl hw2.out; refine stopAt ?_))
            refine Stop.go ?_
            go_wp2_with (first
              | ((with_reducible refine at_loadm rtS gb (ob + k * 10) (spC ⟨d, sd⟩) ?_ ?_ (.tmp 28) ?_ ?_ ?_ ?_); exact range_keep RB.out K2.out.low; rfl; kernel_rfl; rfl; rfl)
              | ((with_reducible refine gen_world (y2.alloc (.cells (spC Z) 43)) (Fm w [(y.heap.size, spC ⟨c, sa⟩, 43), (y2.heap.size, spC Z, 43)]) ?_ ?_); exact K2.out.new _ _; intro y3 K3)
              | ((with_reducible refine at_st rtS y2.heap.size (spC Z) (spC ⟨d, sd⟩) ?_ ?_ ?_ ?_ (.tmp 10) (.tmp 29) ?_ ?_ ?_ ?_ ?_); exact K3.out.bx 1 _ _ _ rfl; rfl; rfl; exact spC_one _; rfl; rfl; rfl; rfl; intro y4 hw4; have K4 : Hid (Fm w [(y.heap.size, spC ⟨c, sa⟩, 43), (y2.heap.size, spC ⟨d, sd⟩, 43)] y4) := K3.out.put 1 _ _ _ _ rfl hw4.out; have e1 := (K4.out.bx 0 _ _ _ rfl).c 0 _ (spC_c ⟨c, sa⟩); have e2 := (K4.out.bx 1 _ _ _ rfl).c 0 _ (spC_c ⟨d, sd⟩); dsimp only at e1 e2; have z1 := (K4.out.bx 0 _ _ _ rfl).fz 0; refine stopAt ?_))
            refine Stop.go ?_
            go_wp2_with (first
              | ((with_reducible refine gen_world (y4.setCell ⟨y.heap.size, 0, none⟩ (.int .i64 0)) (Fm w [(y.heap.size, spC ⟨0, sa⟩, 43), (y2.heap.size, spC ⟨d, sd⟩, 43)]) ?_ ?_); exact K4.out.setCell 0 _ _ _ _ rfl 0 _ rfl; intro y5 K5; have e5 := (K5.out.bx 1 _ _ _ rfl).c 0 _ (spC_c ⟨d, sd⟩); dsimp only at e5; have z5 := (K5.out.bx 1 _ _ _ rfl).fz 0)
              | ((with_reducible refine gen_world (y5.setCell ⟨y2.heap.size, 0, none⟩ (.int .i64 0)) (Fm w [(y.heap.size, spC ⟨0, sa⟩, 43), (y2.heap.size, spC ⟨0, sd⟩, 43)]) ?_ ?_); exact K5.out.setCell 1 _ _ _ _ rfl 0 _ rfl; intro y6 K6; have c6 := rangeC (range_keep RA.out K6.out.low) 0 _ (spC_c ⟨c, sa⟩); have d6 := rangeC (range_keep RB.out K6.out.low) 0 _ (spC_c ⟨d, sd⟩); rw [Nat.add_zero] at c6 d6; dsimp only at c6 d6)
              | ((with_reducible refine at_load rtS y.heap.size (spC ⟨0, sa⟩) ?_ ?_ (.tmp 9) ?_ ?_ ?_ ?_); exact K6.out.bx 0 _ _ _ rfl; rfl; kernel_rfl; rfl; rfl)
              | ((with_reducible refine at_load rtS y2.heap.size (spC ⟨0, sd⟩) ?_ ?_ (.tmp 10) ?_ ?_ ?_ ?_); exact K6.out.bx 1 _ _ _ rfl; rfl; kernel_rfl; rfl; rfl)
              | ((with_reducible refine at_ne hE.out (.tmp 44) (.tmp 45) 43 ?_ ?_ ?_ ?_ ?_); kernel_rfl; rfl; rfl; rfl))
            go_roundw
            case rel => exact ⟨i, k + 1, u + (d - v), 0, _, rfl, rfl, by simp, rfl, rfl, by omega, by omega, by decide, by decide, ⟨by have := lt'.out; omega, by have := lt'.out; omega, fin.out.2.1, fin.out.2.2, fin.out.1⟩, K6.out.pre (l := [])⟩
            case measure => have := lt'.out; simp [intOf]; omega
          · have qn : decide (c - u < 1) = false := by simp; omega
            have fin : Hid (R = sameE (remE (a.drop (i + 1)) 0) (remE (b.drop (k + 1)) 0) ∧ Rm (a.drop (i + 1)) 0 ∧ Rm (b.drop (k + 1)) 0) := by
              have := r4.out (c - u) (by omega) (by omega) (by omega)
              unfold advL advU at this
              dsimp only at this
              rw [if_pos (by omega), if_pos (by omega), if_pos (by omega), if_pos (by omega)] at this
              exact ⟨this, Rm.zero hP.out.1, Rm.zero hP.out.2⟩
            have q0 : ¬ (d - v < c - u) := by omega
            have q1 : (u + (c - u) == c) = true := by simp; omega
            have q2 : (v + (c - u) == d) = true := by simp; omega
            clear r4 hm2
            go_wp2_with (first
              | ((with_reducible refine at_loadm rtS ga (oa + i * 10) (spC ⟨c, sa⟩) ?_ ?_ (.tmp 24) ?_ ?_ ?_ ?_); exact range_keep RA.out K.out.low; rfl; kernel_rfl; rfl; rfl)
              | ((with_reducible refine gen_world (y.alloc (.cells (spC Z) 43)) (Fm w [(y.heap.size, spC Z, 43)]) ?_ ?_); exact K.out.new _ _; intro y1 K1)
              | ((with_reducible refine at_st rtS y.heap.size (spC Z) (spC ⟨c, sa⟩) ?_ ?_ ?_ ?_ (.tmp 9) (.tmp 25) ?_ ?_ ?_ ?_ ?_); exact K1.out.bx 0 _ _ _ rfl; rfl; rfl; exact spC_one _; rfl; rfl; rfl; rfl; intro y2 hw2; have K2 : Hid (Fm w [(y.heap.size, spC ⟨c, sa⟩, 43)] y2) := K1.out.put 0 _ _ _ _ rfl hw2.out; refine stopAt ?_))
            refine Stop.go ?_
            go_wp2_with (first
              | ((with_reducible refine at_loadm rtS gb (ob + k * 10) (spC ⟨d, sd⟩) ?_ ?_ (.tmp 28) ?_ ?_ ?_ ?_); exact range_keep RB.out K2.out.low; rfl; kernel_rfl; rfl; rfl)
              | ((with_reducible refine gen_world (y2.alloc (.cells (spC Z) 43)) (Fm w [(y.heap.size, spC ⟨c, sa⟩, 43), (y2.heap.size, spC Z, 43)]) ?_ ?_); exact K2.out.new _ _; intro y3 K3)
              | ((with_reducible refine at_st rtS y2.heap.size (spC Z) (spC ⟨d, sd⟩) ?_ ?_ ?_ ?_ (.tmp 10) (.tmp 29) ?_ ?_ ?_ ?_ ?_); exact K3.out.bx 1 _ _ _ rfl; rfl; rfl; exact spC_one _; rfl; rfl; rfl; rfl; intro y4 hw4; have K4 : Hid (Fm w [(y.heap.size, spC ⟨c, sa⟩, 43), (y2.heap.size, spC ⟨d, sd⟩, 43)] y4) := K3.out.put 1 _ _ _ _ rfl hw4.out; have e1 := (K4.out.bx 0 _ _ _ rfl).c 0 _ (spC_c ⟨c, sa⟩); have e2 := (K4.out.bx 1 _ _ _ rfl).c 0 _ (spC_c ⟨d, sd⟩); dsimp only at e1 e2; have z1 := (K4.out.bx 0 _ _ _ rfl).fz 0; refine stopAt ?_))
            refine Stop.go ?_
            go_wp2_with (first
              | ((with_reducible refine gen_world (y4.setCell ⟨y.heap.size, 0, none⟩ (.int .i64 0)) (Fm w [(y.heap.size, spC ⟨0, sa⟩, 43), (y2.heap.size, spC ⟨d, sd⟩, 43)]) ?_ ?_); exact K4.out.setCell 0 _ _ _ _ rfl 0 _ rfl; intro y5 K5; have e5 := (K5.out.bx 1 _ _ _ rfl).c 0 _ (spC_c ⟨d, sd⟩); dsimp only at e5; have z5 := (K5.out.bx 1 _ _ _ rfl).fz 0)
              | ((with_reducible refine gen_world (y5.setCell ⟨y2.heap.size, 0, none⟩ (.int .i64 0)) (Fm w [(y.heap.size, spC ⟨0, sa⟩, 43), (y2.heap.size, spC ⟨0, sd⟩, 43)]) ?_ ?_); exact K5.out.setCell 1 _ _ _ _ rfl 0 _ rfl; intro y6 K6; have c6 := rangeC (range_keep RA.out K6.out.low) 0 _ (spC_c ⟨c, sa⟩); have d6 := rangeC (range_keep RB.out K6.out.low) 0 _ (spC_c ⟨d, sd⟩); rw [Nat.add_zero] at c6 d6; dsimp only at c6 d6)
              | ((with_reducible refine at_load rtS y.heap.size (spC ⟨0, sa⟩) ?_ ?_ (.tmp 9) ?_ ?_ ?_ ?_); exact K6.out.bx 0 _ _ _ rfl; rfl; kernel_rfl; rfl; rfl)
              | ((with_reducible refine at_load rtS y2.heap.size (spC ⟨0, sd⟩) ?_ ?_ (.tmp 10) ?_ ?_ ?_ ?_); exact K6.out.bx 1 _ _ _ rfl; rfl; kernel_rfl; rfl; rfl)
              | ((with_reducible refine at_ne hE.out (.tmp 44) (.tmp 45) 43 ?_ ?_ ?_ ?_ ?_); kernel_rfl; rfl; rfl; rfl))
            go_roundw
            case rel => exact ⟨i + 1, k + 1, 0, 0, _, rfl, by simp, by simp, rfl, rfl, by decide, by decide, by decide, by decide, ⟨by have := lt'.out; omega, by have := lt'.out; omega, fin.out.2.1, fin.out.2.2, fin.out.1⟩, K6.out.pre (l := [])⟩
            case measure => have := lt'.out; simp [intOf]; omega
          · have qn : decide (c - u < 1) = false := by simp; omega
            have fin : Hid (R = sameE (remE (a.drop (i + 1)) 0) (remE (b.drop k) (v + (c - u))) ∧ Rm (a.drop (i + 1)) 0 ∧ Rm (b.drop k) (v + (c - u))) := by
              have := r4.out (c - u) (by omega) (by omega) (by omega)
              unfold advL advU at this
              dsimp only at this
              rw [if_pos (by omega), if_pos (by omega), if_neg (by omega), if_neg (by omega)] at this
              rw [hdt'.out]
              exact ⟨this, Rm.zero hP.out.1, ⟨by omega, by show v + (c - u) < d; omega⟩⟩
            have q0 : ¬ (d - v < c - u) := by omega
            have q1 : (u + (c - u) == c) = true := by simp; omega
            have q2 : (v + (c - u) == d) = false := by simp; omega
            clear r4
            go_wp2_with (first
              | ((with_reducible refine at_loadm rtS ga (oa + i * 10) (spC ⟨c, sa⟩) ?_ ?_ (.tmp 24) ?_ ?_ ?_ ?_); exact range_keep RA.out K.out.low; rfl; kernel_rfl; rfl; rfl)
              | ((with_reducible refine gen_world (y.alloc (.cells (spC Z) 43)) (Fm w [(y.heap.size, spC Z, 43)]) ?_ ?_); exact K.out.new _ _; intro y1 K1)
              | ((with_reducible refine at_st rtS y.heap.size (spC Z) (spC ⟨c, sa⟩) ?_ ?_ ?_ ?_ (.tmp 9) (.tmp 25) ?_ ?_ ?_ ?_ ?_); exact K1.out.bx 0 _ _ _ rfl; rfl; rfl; exact spC_one _; rfl; rfl; rfl; rfl; intro y2 hw2; have K2 : Hid (Fm w [(y.heap.size, spC ⟨c, sa⟩, 43)] y2) := K1.out.put 0 _ _ _ _ rfl hw2.out; refine stopAt ?_))
            refine Stop.go ?_
            go_wp2_with (first
              | ((with_reducible refine at_loadm rtS gb (ob + k * 10) (spC ⟨d, sd⟩) ?_ ?_ (.tmp 28) ?_ ?_ ?_ ?_); exact range_keep RB.out K2.out.low; rfl; kernel_rfl; rfl; rfl)
              | ((with_reducible refine gen_world (y2.alloc (.cells (spC Z) 43)) (Fm w [(y.heap.size, spC ⟨c, sa⟩, 43), (y2.heap.size, spC Z, 43)]) ?_ ?_); exact K2.out.new _ _; intro y3 K3)
              | ((with_reducible refine at_st rtS y2.heap.size (spC Z) (spC ⟨d, sd⟩) ?_ ?_ ?_ ?_ (.tmp 10) (.tmp 29) ?_ ?_ ?_ ?_ ?_); exact K3.out.bx 1 _ _ _ rfl; rfl; rfl; exact spC_one _; rfl; rfl; rfl; rfl; intro y4 hw4; have K4 : Hid (Fm w [(y.heap.size, spC ⟨c, sa⟩, 43), (y2.heap.size, spC ⟨d, sd⟩, 43)] y4) := K3.out.put 1 _ _ _ _ rfl hw4.out; have e1 := (K4.out.bx 0 _ _ _ rfl).c 0 _ (spC_c ⟨c, sa⟩); have e2 := (K4.out.bx 1 _ _ _ rfl).c 0 _ (spC_c ⟨d, sd⟩); dsimp only at e1 e2; have z1 := (K4.out.bx 0 _ _ _ rfl).fz 0; refine stopAt ?_))
            refine Stop.go ?_
            go_wp2_with (first
              | ((with_reducible refine gen_world (y4.setCell ⟨y.heap.size, 0, none⟩ (.int .i64 0)) (Fm w [(y.heap.size, spC ⟨0, sa⟩, 43), (y2.heap.size, spC ⟨d, sd⟩, 43)]) ?_ ?_); exact K4.out.setCell 0 _ _ _ _ rfl 0 _ rfl; intro y5 K5; have e5 := (K5.out.bx 1 _ _ _ rfl).c 0 _ (spC_c ⟨d, sd⟩); dsimp only at e5; have z5 := (K5.out.bx 1 _ _ _ rfl).fz 0)
              | ((with_reducible refine gen_world (y5.setCell ⟨y2.heap.size, 0, none⟩ (.int .i64 0)) (Fm w [(y.heap.size, spC ⟨0, sa⟩, 43), (y2.heap.size, spC ⟨0, sd⟩, 43)]) ?_ ?_); exact K5.out.setCell 1 _ _ _ _ rfl 0 _ rfl; intro y6 K6; have c6 := rangeC (range_keep RA.out K6.out.low) 0 _ (spC_c ⟨c, sa⟩); have d6 := rangeC (range_keep RB.out K6.out.low) 0 _ (spC_c ⟨d, sd⟩); rw [Nat.add_zero] at c6 d6; dsimp only at c6 d6)
              | ((with_reducible refine at_load rtS y.heap.size (spC ⟨0, sa⟩) ?_ ?_ (.tmp 9) ?_ ?_ ?_ ?_); exact K6.out.bx 0 _ _ _ rfl; rfl; kernel_rfl; rfl; rfl)
              | ((with_reducible refine at_load rtS y2.heap.size (spC ⟨0, sd⟩) ?_ ?_ (.tmp 10) ?_ ?_ ?_ ?_); exact K6.out.bx 1 _ _ _ rfl; rfl; kernel_rfl; rfl; rfl)
              | ((with_reducible refine at_ne hE.out (.tmp 44) (.tmp 45) 43 ?_ ?_ ?_ ?_ ?_); kernel_rfl; rfl; rfl; rfl))
            go_roundw
            case rel => exact ⟨i + 1, k, 0, v + (c - u), _, rfl, by simp, rfl, rfl, rfl, by decide, by decide, by omega, by omega, ⟨by have := lt'.out; omega, by have := lt'.out; omega, fin.out.2.1, fin.out.2.2, fin.out.1⟩, K6.out.pre (l := [])⟩
            case measure => have := lt'.out; simp [intOf]; omega
      · have hke : k = m := by have := J.out.2.1; omega
        subst hke
        have fin : Hid (R = false) := by
          obtain ⟨_, _, r1, r2, r3⟩ := J.out
          obtain ⟨s, hs, hds⟩ := at_list hn'.out hia'
          rw [drop_nil b hm'.out, hds] at r3
          rw [hds] at r1
          show R = false
          rw [r3]
          exact sameE_no (rem_nil _ _ _ r1.2)
        have q1 : (i : Int) < n := by omega
        have q2 : ((i : Int) == n) = false := by simp; omega
        have q3 : decide ((k : Int) < k) = false := by simp
        clear hia' hkb J
        go_wp2
        go_ret
        exact ⟨by rw [fin.out]; rfl, K.out.low⟩
    · have hie : i = n := by have := J.out.1; omega
      subst hie
      by_cases hkb : k < m
      · have fin : Hid (R = false) := by
          obtain ⟨_, _, r1, r2, r3⟩ := J.out
          obtain ⟨s, hs, hds⟩ := at_list hm'.out hkb
          rw [drop_nil a hn'.out, hds] at r3
          rw [hds] at r2
          show R = false
          rw [r3]
          exact sameE_no fun e => rem_nil _ _ _ r2.2 e.symm
        have q1 : decide ((i : Int) < i) = false := by simp
        have q2 : ((k : Int) == m) = false := by simp; omega
        have q3 : ((i : Int) == i) = true := by simp
        clear hia' hkb J
        go_wp2
        go_ret
        exact ⟨by rw [fin.out]; rfl, K.out.low⟩
      · have hke : k = m := by have := J.out.2.1; omega
        subst hke
        have fin : Hid (R = true) := by
          obtain ⟨_, _, r1, r2, r3⟩ := J.out
          rw [drop_nil a hn'.out, drop_nil b hm'.out] at r3
          exact r3
        have q1 : decide ((i : Int) < i) = false := by simp
        have q2 : ((k : Int) == k) = true := by simp
        have q3 : ((i : Int) == i) = true := by simp
        clear hia' hkb J
        go_wp2
        go_ret
        exact ⟨by rw [fin.out]; rfl, K.out.low⟩
end Go.Proofs.YthpahpfnpapoiabDoor
