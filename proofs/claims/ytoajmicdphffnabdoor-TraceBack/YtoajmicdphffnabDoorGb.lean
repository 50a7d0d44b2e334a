/- A record's bytes, and what stands ahead of all: the program's. -/
import Derived.Test.YtoajmicdphffnabDoorGa
import Derived.Test.YtoajmicdphffnabDoorKp
import Derived.Laws.Small
namespace Go.Proofs.YtoajmicdphffnabDoor
open Go Go.RowKit
set_option linter.unusedVariables false
set_option maxHeartbeats 2000000
set_option maxRecDepth 20000

theorem or_all : ∀ n : Fin 256, ∀ k ∈ [4, 8, 16, 128], n.val / k % 2 = 0 → bits .or .u8 (n.val : Int) (k : Int) = ((n.val + k : Nat) : Int) := by decide +kernel
theorem or_bit (h : Int) (k : Nat) (hk : k = 4 ∨ k = 8 ∨ k = 16 ∨ k = 128) (h0 : 0 ≤ h) (h1 : h ≤ 255) (hz : h / (k : Int) % 2 = 0) : bits .or .u8 h (k : Int) = h + k := by
  obtain ⟨n, rfl⟩ := Int.eq_ofNat_of_zero_le h0
  have := or_all ⟨n, by omega⟩ k (by simp; omega) (by show n / k % 2 = 0; omega)
  rw [this]
  rfl
theorem or_two : ∀ a b : Fin 4, bits .or .u8 (a.val : Int) ((32 * b.val : Nat) : Int) = ((a.val + 32 * b.val : Nat) : Int) := by decide +kernel
theorem or_mode (c m : Int) (c0 : 0 ≤ c) (c1 : c ≤ 3) (m0 : 0 ≤ m) (m1 : m ≤ 3) : bits .or .u8 c (m * 32) = c + 32 * m := by
  obtain ⟨a, rfl⟩ := Int.eq_ofNat_of_zero_le c0
  obtain ⟨b, rfl⟩ := Int.eq_ofNat_of_zero_le m0
  have := or_two ⟨a, by omega⟩ ⟨b, by omega⟩
  rw [show ((b : Int) * 32) = ((32 * b : Nat) : Int) by push_cast; omega, this]
  push_cast
  rfl
def headP (r : Rc) : Int := r.co + 32 * r.mo + 4 * bi r.re + 8 * bi r.wr + 16 * bi r.q
theorem headP_lt {r : Rc} (g : Rr r) (hm : mayR r = true) : 0 ≤ headP r ∧ headP r ≤ 127 := by
  obtain ⟨m1, m2, m3, m4⟩ := (may_iff r).1 hm
  have h1 := bi_two r.re
  have h2 := bi_two r.wr
  have h3 := bi_two r.q
  have c0 := g.c0
  have m0 := g.m0
  unfold headP
  omega
theorem head_any (w : World) (r : Rc) (g : Rr r) (hm : mayR r = true) : Calls Tryd.prog 50 #[.agg (rcC r)] w fun e w' => e = .returned (.int .u8 (headP r)) ∧ Below w.heap.size w w' := by
  have hF : Hid (Fm w [(w.heap.size, rcC r, 45)] (w.alloc (.cells (rcC r) 45))) := Fm.one w _ _
  obtain ⟨m1, m2, m3, m4⟩ := (may_iff r).1 hm
  have c0 := g.c0
  have mo0 := g.m0
  unfold headP
  obtain ⟨co, hco⟩ : ∃ x, r.co = x := ⟨_, rfl⟩
  obtain ⟨mo, hmo⟩ : ∃ x, r.mo = x := ⟨_, rfl⟩
  obtain ⟨re, hre⟩ : ∃ x, r.re = x := ⟨_, rfl⟩
  obtain ⟨wr, hwr⟩ : ∃ x, r.wr = x := ⟨_, rfl⟩
  obtain ⟨q, hq⟩ : ∃ x, r.q = x := ⟨_, rfl⟩
  rw [hco, hmo, hre, hwr, hq]
  rw [hco] at m1 c0
  rw [hmo] at m3 mo0
  have o1 := or_mode co mo c0 m1 mo0 m3
  have sh : IntKind.u8.wrap (mo * 32) = mo * 32 := by rw [IntKind.wrap_u8]; omega
  obtain ⟨H, hH⟩ : ∃ x, co + 32 * mo = x := ⟨_, rfl⟩
  have H0 : 0 ≤ H := by omega
  have H1 : H ≤ 99 := by omega
  have Hz : H / 4 % 8 = 0 := by omega
  rw [hH] at o1 ⊢
  have o4 : bits .or .u8 H 4 = H + 4 := or_bit H 4 (by simp) H0 (by omega) (by omega)
  have o8 : bits .or .u8 H 8 = H + 8 := or_bit H 8 (by simp) H0 (by omega) (by omega)
  have o48 : bits .or .u8 (H + 4) 8 = H + 4 + 8 := or_bit (H + 4) 8 (by simp) (by omega) (by omega) (by omega)
  have o16 : bits .or .u8 H 16 = H + 16 := or_bit H 16 (by simp) H0 (by omega) (by omega)
  have o416 : bits .or .u8 (H + 4) 16 = H + 4 + 16 := or_bit (H + 4) 16 (by simp) (by omega) (by omega) (by omega)
  have o816 : bits .or .u8 (H + 8) 16 = H + 8 + 16 := or_bit (H + 8) 16 (by simp) (by omega) (by omega) (by omega)
  have o4816 : bits .or .u8 (H + 4 + 8) 16 = H + 4 + 8 + 16 := or_bit (H + 4 + 8) 16 (by simp) (by omega) (by omega) (by omega)
  replace hco : Hid _ := hco
  replace hmo : Hid _ := hmo
  replace hre : Hid _ := hre
  replace hwr : Hid _ := hwr
  replace hq : Hid _ := hq
  clear m2 m4 hm g hH
  cases re <;> cases wr <;> cases q
  all_goals
    go_enter Tryd.func50, Tryd.ntmps50
    go_wp2_with ((with_reducible refine gen_world (w.alloc (.cells (rcC r) 45)) (Fm w [(w.heap.size, rcC r, 45)]) hF.out ?_); intro y K; have d0 := (K.out.bx 0 _ _ _ rfl).c 0 _ (rcC_co r); rw [hco.out] at d0; have d3 := (K.out.bx 0 _ _ _ rfl).c 3 _ (rcC_re r); rw [hre.out] at d3; have d4 := (K.out.bx 0 _ _ _ rfl).c 4 _ (rcC_wr r); rw [hwr.out] at d4; have d6 := (K.out.bx 0 _ _ _ rfl).c 6 _ (rcC_q r); rw [hq.out] at d6; have d7 := (K.out.bx 0 _ _ _ rfl).c 7 _ (rcC_mo r); rw [hmo.out] at d7)
    go_ret
    exact ⟨rint (by simp only [bi, if_true, Bool.false_eq_true, if_false]; omega), K.out.low⟩
theorem far_any (w : World) (r : Rc) (next : Int) : Calls Tryd.prog 51 #[.agg (rcC r), .int .u16 next] w fun e w' => e = .returned (.bool (farR r next)) ∧ Below w.heap.size w w' := by
  have hF : Hid (Fm w [(w.heap.size, rcC r, 45)] (w.alloc (.cells (rcC r) 45))) := Fm.one w _ _
  unfold farR
  obtain ⟨ad, had⟩ : ∃ x, r.ad = x := ⟨_, rfl⟩
  obtain ⟨po, hpo⟩ : ∃ x, r.po = x := ⟨_, rfl⟩
  rw [had, hpo]
  obtain ⟨b1, q1⟩ : ∃ b, (ad != next) = b := ⟨_, rfl⟩
  obtain ⟨b2, q2⟩ : ∃ b, (po != 0) = b := ⟨_, rfl⟩
  have e1 : decide (ad ≠ next) = b1 := by rw [← q1, Bool.eq_iff_iff]; simp
  have e2 : decide (po ≠ 0) = b2 := by rw [← q2, Bool.eq_iff_iff]; simp
  rw [e1, e2]
  replace had : Hid _ := had
  replace hpo : Hid _ := hpo
  clear e1 e2
  cases b1 <;> cases b2
  all_goals
    go_enter Tryd.func51, Tryd.ntmps51
    go_wp2_with ((with_reducible refine gen_world (w.alloc (.cells (rcC r) 45)) (Fm w [(w.heap.size, rcC r, 45)]) hF.out ?_); intro y K; have d1 := (K.out.bx 0 _ _ _ rfl).c 1 _ (rcC_ad r); rw [had.out] at d1; have d5 := (K.out.bx 0 _ _ _ rfl).c 5 _ (rcC_po r); rw [hpo.out] at d5)
    go_ret
    exact ⟨by first | rfl | simp, K.out.low⟩
theorem low_any (x : Int) (w : World) (_h0 : 0 ≤ x) (_h1 : x ≤ 65535) : Calls Tryd.prog 52 #[.int .u16 x] w fun e w' => e = .returned (.int .u8 (x % 256)) ∧ w' = w := by
  go_enter Tryd.func52, Tryd.ntmps52
  go_wp2
  go_ret
  exact ⟨rint (by omega), rfl⟩
theorem high_any (x : Int) (w : World) (h0 : 0 ≤ x) (h1 : x ≤ 65535) : Calls Tryd.prog 53 #[.int .u16 x] w fun e w' => e = .returned (.int .u8 (x / 256)) ∧ w' = w := by
  go_enter Tryd.func53, Tryd.ntmps53
  go_wp2
  go_ret
  exact ⟨rint (by omega), rfl⟩
end Go.Proofs.YtoajmicdphffnabDoor
