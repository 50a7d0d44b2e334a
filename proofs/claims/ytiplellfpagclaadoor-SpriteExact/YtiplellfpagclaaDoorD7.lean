/- The statements' own: whether two rows of bytes are the same; whether a page has a dot on where a stroke has one. -/
import Derived.Test.YtiplellfpagclaaDoorD3
namespace Go.Proofs.YtiplellfpagclaaDoor
open Go Go.RowKit Go.Shelf
set_option linter.unusedVariables false
set_option maxHeartbeats 1000000
set_option maxRecDepth 20000

theorem same_any (w : World) (spa spb : Option Addr) (capa capb : Nat) (la lb : List UInt8) (ha : Hid (LB w spa la)) (hb : Hid (LB w spb lb)) (hn : la.length ≤ 4000000000) (hn2 : lb.length ≤ 4000000000) :
    Calls Tryd.prog 10 #[.slice spa la.length capa, .slice spb lb.length capb] w fun e w' => e = .returned (.bool (decide (la = lb))) ∧ Below w.heap.size w w' := by
  obtain ⟨n, hn'⟩ : ∃ n, la.length = n := ⟨_, rfl⟩
  obtain ⟨m, hm'⟩ : ∃ n, lb.length = n := ⟨_, rfl⟩
  rw [hn', hm']
  obtain ⟨R, hR⟩ : ∃ R, decide (la = lb) = R := ⟨_, rfl⟩
  rw [hR]
  have hR : Hid (decide (la = lb) = R) := hR
  have ni : (n : Int) ≤ 4000000000 := by omega
  have mi : (m : Int) ≤ 4000000000 := by omega
  have nn : Hid (la.length = n ∧ lb.length = m) := ⟨hn', hm'⟩
  by_cases h : n = m
  · subst h
    have q1 : ((n : Int) != (n : Int)) = false := by simp
    clear hn' hm' hn hn2 mi
    go_enter Tryd.func10, Tryd.ntmps10
    go_wp2
    go_loopw [5] (fun i wz => ∃ (k : Nat) (y : World), y = wz ∧ k ≤ n ∧ i = .int .i64 (k : Int) ∧ Hid (Below w.heap.size w y ∧ ∀ j, j < k → la.getD j 0 = lb.getD j 0)) (fun i _ => (n - intOf i).toNat)
    case atStart => exact ⟨0, w, rfl, Nat.zero_le _, rfl, ⟨Below.refl _ _, fun j hj => by omega⟩⟩
    case round =>
      obtain ⟨k, y, rfl, hk, rfl, K⟩ := hrel
      by_cases hlt : k < n
      · have hki : (k : Int) < n := by omega
        obtain ⟨ga, oa, rfl⟩ := lb_some ha.out (by have := nn.out.1; omega)
        obtain ⟨gb, ob, rfl⟩ := lb_some hb.out (by have := nn.out.2; omega)
        have ca := lb_at (ha.out.below K.out.1) k (by have := nn.out.1; omega)
        have cb := lb_at (hb.out.below K.out.1) k (by have := nn.out.2; omega)
        have ia := fun v => idxB .i64 ga oa n capa k v hlt
        have ib := fun v => idxB .i64 gb ob n capb k v hlt
        by_cases he : la.getD k 0 = lb.getD k 0
        · have K2 : Hid (Below w.heap.size w y ∧ ∀ j, j < k + 1 → la.getD j 0 = lb.getD j 0) := ⟨K.out.1, fun j hj => by
            rcases Nat.lt_or_ge j k with h1 | h1
            · exact K.out.2 j h1
            · rw [show j = k by omega]; exact he⟩
          rw [← he] at cb
          obtain ⟨a, hae⟩ : ∃ a, (la.getD k 0).toNat = a := ⟨_, rfl⟩
          rw [hae] at ca cb
          have q2 : ((a : Int) != (a : Int)) = false := by simp
          have hlt' : Hid (k < n) := hlt
          clear he hae K hk hlt
          go_wp2
          go_quiet (fail)
          go_wp2
          go_roundw
          case rel => exact ⟨k + 1, _, rfl, hlt'.out, by simp, ⟨by first | exact K2.out.1.trans (below_drewN (Below.refl _ _)) | exact below_drewN K2.out.1 | exact K2.out.1, K2.out.2⟩⟩
          case measure => have := hlt'.out; simp [intOf]; omega
        · have e0 : Hid (R = false) := by
            show R = false
            rw [← hR.out]
            exact decide_eq_false fun e => he (by rw [e])
          obtain ⟨a, hae⟩ : ∃ a, (la.getD k 0).toNat = a := ⟨_, rfl⟩
          obtain ⟨b, hbe⟩ : ∃ a, (lb.getD k 0).toNat = a := ⟨_, rfl⟩
          have q2 : ((a : Int) != (b : Int)) = true := by
            have : a ≠ b := fun e => he (UInt8.toNat_inj.1 (by rw [hae, hbe, e]))
            simp; omega
          rw [hae] at ca
          rw [hbe] at cb
          clear he hae hbe hk hlt
          go_wp2
          go_quiet (fail)
          go_wp2
          go_ret
          exact ⟨by rw [e0.out]; rfl, by first | exact below_drewN K.out.1 | exact K.out.1⟩
      · have hke : k = n := by omega
        subst hke
        have e1 : Hid (R = true) := by
          show R = true
          rw [← hR.out]
          refine decide_eq_true (List.ext_getElem (nn.out.1.trans nn.out.2.symm) fun j h1 h2 => ?_)
          have := K.out.2 j (by have := nn.out.1; omega)
          simpa [List.getD, h1, h2] using this
        clear hk hlt
        go_wp2
        go_ret
        exact ⟨by rw [e1.out]; rfl, K.out.1⟩
  · have q1 : ((n : Int) != (m : Int)) = true := by simp; omega
    have e0 : Hid (R = false) := by
      show R = false
      rw [← hR.out]
      exact decide_eq_false fun e => h (by rw [← nn.out.1, ← nn.out.2, e])
    clear hn' hm' hn hn2 h
    go_enter Tryd.func10, Tryd.ntmps10
    go_wp2
    go_ret
    exact ⟨by rw [e0.out]; rfl, Below.refl _ _⟩
end Go.Proofs.YtiplellfpagclaaDoor
