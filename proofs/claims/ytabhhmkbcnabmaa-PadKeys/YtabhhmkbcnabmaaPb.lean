/- One key of a mask, by the document; whether the key at the latch is down, by the program and by the document. -/
import Derived.Test.YtabhhmkbcnabmaaPa
namespace Go.Proofs.Ytabhhmkbcnabmaa
open Go Go.RowKit
set_option linter.unusedVariables false
set_option maxHeartbeats 400000
set_option maxRecDepth 20000

def padC (p : Int) : Array Value := #[.int .u8 p]
theorem padC_0 (p : Int) : (padC p)[0]? = some (.int .u8 p) := rfl
theorem padC_one (p : Int) : (padC p).all (·.oneCell') = true := by simp [padC, Value.oneCell']
theorem rtP : Rt Try.prog 23 1 := ⟨⟨_, Try.underlying23, rfl⟩, by kernel_rfl⟩
theorem half_any (m j : Nat) : m / 2 ^ j / 2 = m / 2 ^ (j + 1) := by rw [Nat.div_div_eq_div_mul, Nat.pow_succ]

theorem bit_any (w : World) (m k : Nat) (hm : m < 65536) (hk : k < 65536) : Calls Try.prog 18 #[.int .u16 (m : Int), .int .i64 (k : Int)] w fun e w' => e = .returned (.bool (bitB m k)) ∧ w' = w := by
  obtain ⟨c, hc⟩ : ∃ c : Int, (m : Int) = c := ⟨_, rfl⟩
  have c0 : 0 ≤ c := by omega
  have c1 : c ≤ 65535 := by omega
  have hk' : Hid (k < 65536) := hk
  have hm' : Hid (m < 65536) := hm
  have ki : (k : Int) ≤ 65535 := by omega
  rw [hc]
  replace hc : Hid _ := hc
  clear hm hk
  go_enter Try.func18, Try.ntmps18
  go_wp2
  go_loopw [5, 6] (fun n i wz => ∃ (j : Nat) (q : Int), wz = w ∧ Hid (j ≤ k ∧ q = ((m / 2 ^ j : Nat) : Int)) ∧ 0 ≤ q ∧ q ≤ 65535 ∧ n = .int .i64 q ∧ i = .int .i64 (j : Int)) (fun _ i _ => (k - intOf i).toNat)
  case atStart => exact ⟨0, c, rfl, ⟨Nat.zero_le _, by rw [Nat.pow_zero, Nat.div_one]; exact hc.out.symm⟩, c0, c1, rfl, rfl⟩
  case round =>
    obtain ⟨j, q, rfl, hj, q0, q1, rfl, rfl⟩ := hrel
    by_cases hlt : j < k
    · have hji : (j : Int) < k := by omega
      have hlt' : Hid (j < k) := hlt
      clear hlt
      go_wp2
      go_roundw
      case rel =>
        refine ⟨j + 1, _, by first | rfl | trivial, ⟨by have := hlt'.out; omega, ?_⟩, ?_, ?_, rfl, by simp⟩
        · rw [← half_any, hj.out.2]; omega
        · omega
        · omega
      case measure => have := hlt'.out; simp [intOf]; omega
    · have hje : j = k := by have := hj.out.1; omega
      subst hje
      clear hlt
      have fin : Hid ((q % 2 == 1) = bitB m j) := by
        have e := hj.out.2
        unfold bitB
        obtain ⟨z, hz⟩ : ∃ z, m / 2 ^ j = z := ⟨_, rfl⟩
        rw [hz] at e ⊢
        subst e
        rcases Nat.mod_two_eq_zero_or_one z with h | h
        · have hi : (z : Int) % 2 = 0 := by omega
          rw [h, hi]; rfl
        · have hi : (z : Int) % 2 = 1 := by omega
          rw [h, hi]; rfl
      go_wp2
      go_ret
      exact ⟨by first | (rw [← fin.out]; rfl) | simp [fin.out], by first | rfl | trivial⟩

theorem down_any (w : World) (p m : Nat) (hm : m < 65536) : Calls Try.prog 7 #[.agg (padC (p : Int)), .int .u16 (m : Int)] w fun e w' => e = .returned (.bool (bitB m p)) ∧ Below w.heap.size w w' := by
  obtain ⟨q, r, h1, h2, h3⟩ := shr_any m p hm .u8
  have hF : Hid (Fm w [(w.heap.size, padC (p : Int), 23)] (w.alloc (.cells (padC (p : Int)) 23))) := Fm.one w _ _
  obtain ⟨l, hl⟩ : ∃ l : Int, (p : Int) = l := ⟨_, rfl⟩
  obtain ⟨c, hc⟩ : ∃ c : Int, (m : Int) = c := ⟨_, rfl⟩
  rw [hl, hc] at h1
  rw [hl] at hF ⊢
  rw [hc]
  obtain ⟨b, hb⟩ : ∃ b, bitB m p = b := ⟨_, rfl⟩
  rw [hb] at h3 ⊢
  clear hl hc hb hm
  go_enter Try.func7, Try.ntmps7
  go_wp2_with (first
      | ((with_reducible refine gen_world (w.alloc (.cells (padC l) 23)) (Fm w [(w.heap.size, padC l, 23)]) hF.out ?_); intro y K; have d0 := (K.out.bx 0 _ _ _ rfl).c 0 _ (padC_0 l)))
  go_ret
  exact ⟨rfl, K.out.low⟩
theorem rdown_any (w : World) (p m : Nat) (hp : p < 256) (hm : m < 65536) : Calls Try.prog 8 #[.agg (padC (p : Int)), .int .u16 (m : Int)] w fun e w' => e = .returned (.bool (bitB m p)) ∧ Below w.heap.size w w' := by
  have hB := fun v => bit_any v m p hm (by omega)
  have hF : Hid (Fm w [(w.heap.size, padC (p : Int), 23)] (w.alloc (.cells (padC (p : Int)) 23))) := Fm.one w _ _
  have hd : (decide ((p : Int) ≤ 15)) = false → bitB m p = false := fun h => bitB_high m p hm (by simp at h; omega)
  obtain ⟨l, hl⟩ : ∃ l : Int, (p : Int) = l := ⟨_, rfl⟩
  obtain ⟨c, hc⟩ : ∃ c : Int, (m : Int) = c := ⟨_, rfl⟩
  rw [hl, hc] at hB
  rw [hl] at hF hd ⊢
  rw [hc]
  have l0 : 0 ≤ l := by omega
  have l1 : l ≤ 255 := by omega
  obtain ⟨b, hb⟩ : ∃ b, bitB m p = b := ⟨_, rfl⟩
  rw [hb] at hB hd ⊢
  clear hl hc hb hm hp
  obtain ⟨t, ht⟩ : ∃ t, decide (l ≤ 15) = t := ⟨_, rfl⟩
  rw [ht] at hd
  cases t
  · have hb := hd rfl
    subst hb
    clear hd
    go_enter Try.func8, Try.ntmps8
    go_wp2_with (first
      | ((with_reducible refine gen_world (w.alloc (.cells (padC l) 23)) (Fm w [(w.heap.size, padC l, 23)]) hF.out ?_); intro y K; have d0 := (K.out.bx 0 _ _ _ rfl).c 0 _ (padC_0 l))
      | (go_at_call 18; refine (hB _).mono ?_; rintro e v ⟨rfl, hv⟩; subst hv))
    go_ret
    exact ⟨rfl, K.out.low⟩
  · clear hd
    go_enter Try.func8, Try.ntmps8
    go_wp2_with (first
      | ((with_reducible refine gen_world (w.alloc (.cells (padC l) 23)) (Fm w [(w.heap.size, padC l, 23)]) hF.out ?_); intro y K; have d0 := (K.out.bx 0 _ _ _ rfl).c 0 _ (padC_0 l))
      | (go_at_call 18; refine (hB _).mono ?_; rintro e v ⟨rfl, hv⟩; subst hv))
    go_ret
    exact ⟨by first | rfl | simp, K.out.low⟩
end Go.Proofs.Ytabhhmkbcnabmaa
