/- The statements' own: whether a page has a dot on where a stroke has one. -/
import Derived.Test.YtiplellfpagclaaD7
namespace Go.Proofs.Ytiplellfpagclaa
open Go Go.RowKit Go.Shelf
set_option linter.unusedVariables false
set_option maxHeartbeats 1000000
set_option maxRecDepth 20000
set_option pp.maxSteps 200000

theorem and63 (x : UInt8) : bits .and .u8 (x.toNat : Int) 63 = ((x.toNat % 64 : Nat) : Int) := by
  have h : ∀ i : Fin 256, bits .and .u8 (i.val : Int) 63 = ((i.val % 64 : Nat) : Int) := by decide +kernel
  exact h ⟨x.toNat, x.toNat_lt⟩
theorem and31 (x : UInt8) : bits .and .u8 (x.toNat : Int) 31 = ((x.toNat % 32 : Nat) : Int) := by
  have h : ∀ i : Fin 256, bits .and .u8 (i.val : Int) 31 = ((i.val % 32 : Nat) : Int) := by decide +kernel
  exact h ⟨x.toNat, x.toNat_lt⟩
/-- A stroke's cells. -/
def stC (x y : UInt8) (rv : Value) : Array Value := #[.int .u8 (x.toNat : Int), .int .u8 (y.toNat : Int), rv]
theorem gone_succ (x y : Nat) (rows p : List UInt8) (i j : Nat) (hi : i < 8) : goneS x y rows p (8 * j + i + 1) = (goneS x y rows p (8 * j + i) || if rows.getD j 0 &&& mk i = 0 ∨ 64 ≤ x % 64 + i ∨ 32 ≤ y % 32 + j then false else bitP p (64 * (y % 32 + j) + (x % 64 + i))) := by
  show (goneS x y rows p (8 * j + i) || match plc x y rows (8 * j + i) with | none => false | some n => bitP p n) = _
  rw [plc_at x y rows i j hi]
  congr 1
  by_cases h : rows.getD j 0 &&& mk i = 0 ∨ 64 ≤ x % 64 + i ∨ 32 ≤ y % 32 + j
  · rw [if_pos h, if_pos h]
  · rw [if_neg h, if_neg h]
theorem gone_mono (x y : Nat) (rows p : List UInt8) (a b : Nat) (h : a ≤ b) (k : goneS x y rows p a = true) : goneS x y rows p b = true := by
  rw [gone_iff] at k ⊢
  obtain ⟨t, n, h1, h2, h3⟩ := k
  exact ⟨t, n, by omega, h2, h3⟩
theorem went_any (w : World) (sp spR : Option Addr) (cap capR : Nat) (p rows : List UInt8) (x y : UInt8) (hp : p.length = 256) (hr : rows.length ≤ 15) (hl : Hid (LB w sp p)) (hlr : Hid (LB w spR rows)) :
    Calls Try.prog 8 #[.slice sp 256 cap, .agg (stC x y (.slice spR rows.length capR))] w fun e w' => e = .returned (.bool (goneS x.toNat y.toNat rows p (8 * rows.length))) ∧ Below w.heap.size w w' := by
  have ax := and63 x
  have ay := and31 y
  have xl := x.toNat_lt
  have yl := y.toNat_lt
  unfold stC
  obtain ⟨X, hX⟩ : ∃ X, x.toNat = X := ⟨_, rfl⟩
  obtain ⟨Y, hY⟩ : ∃ X, y.toNat = X := ⟨_, rfl⟩
  rw [hX] at ax ⊢
  rw [hY] at ay ⊢
  obtain ⟨n, hn⟩ : ∃ n, rows.length = n := ⟨_, rfl⟩
  rw [hn]
  obtain ⟨G, hG⟩ : ∃ G, goneS X Y rows p (8 * n) = G := ⟨_, rfl⟩
  rw [hG]
  have hG : Hid (goneS X Y rows p (8 * n) = G) := hG
  have hn' : Hid (rows.length = n ∧ n ≤ 15) := ⟨hn, by omega⟩
  have ni : (n : Int) ≤ 15 := by omega
  obtain ⟨X', hX'⟩ : ∃ X', X % 64 = X' := ⟨_, rfl⟩
  obtain ⟨Y', hY'⟩ : ∃ X', Y % 32 = X' := ⟨_, rfl⟩
  rw [hX'] at ax
  rw [hY'] at ay
  have hm : Hid (X % 64 = X' ∧ Y % 32 = Y' ∧ X' < 64 ∧ Y' < 32) := ⟨hX', hY', by omega, by omega⟩
  have xi : (X' : Int) < 64 := by omega
  have yi : (Y' : Int) < 32 := by omega
  have hp' : Hid (p.length = 256) := hp
  clear hX hY hX' hY' xl yl hn hr hp
  have K0 : Hid (Fm w [(w.heap.size, #[.int .u8 (X : Int), .int .u8 (Y : Int), .slice spR n capR], 24)] (w.alloc (.cells #[.int .u8 (X : Int), .int .u8 (Y : Int), .slice spR n capR] 24))) := Fm.one w _ _
  go_enter Try.func8, Try.ntmps8
  go_wp2
  go_loopw [5] (fun t wz => ∃ (k : Nat) (u : World), u = wz ∧ k ≤ n ∧ t = .int .i64 (k : Int) ∧ Hid (Fm w [(w.heap.size, #[.int .u8 (X : Int), .int .u8 (Y : Int), .slice spR n capR], 24)] u ∧ goneS X Y rows p (8 * k) = false)) (fun t _ => (n - intOf t).toNat)
  case atStart => exact ⟨0, _, rfl, Nat.zero_le _, rfl, ⟨K0.out, rfl⟩⟩
  case round =>
    obtain ⟨k, u, rfl, hk, rfl, K⟩ := hrel
    clear K0
    have c2 := (K.out.1.bx 0 _ _ _ rfl).c 2 (.slice spR n capR) rfl
    by_cases hlt : k < n
    · have hki : (k : Int) < n := by omega
      have hlt' : Hid (k < n) := hlt
      clear hk hlt
      go_wp2
      go_loopw [6] (fun t wz => ∃ (d : Nat) (v : World), v = wz ∧ d ≤ 8 ∧ t = .int .i64 (d : Int) ∧ Hid (Fm w [(w.heap.size, #[.int .u8 (X : Int), .int .u8 (Y : Int), .slice spR n capR], 24)] v ∧ goneS X Y rows p (8 * k + d) = false)) (fun t _ => (8 - intOf t).toNat)
      case atStart => exact ⟨0, u, rfl, Nat.zero_le _, rfl, K⟩
      case round =>
        obtain ⟨d, v, rfl, hd, rfl, L⟩ := hrel
        clear K c2
        by_cases hd8 : d < 8
        · have hdi : (d : Int) < 8 := by omega
          have c0 := (L.out.1.bx 0 _ _ _ rfl).c 0 (.int .u8 (X : Int)) rfl
          have c1 := (L.out.1.bx 0 _ _ _ rfl).c 1 (.int .u8 (Y : Int)) rfl
          have c2 := (L.out.1.bx 0 _ _ _ rfl).c 2 (.slice spR n capR) rfl
          have hs := gone_succ X Y rows p d k hd8
          rw [L.out.2, Bool.false_or, hm.out.1, hm.out.2.1] at hs
          have s8 := sh8 d hd8
          obtain ⟨gr, ro, rfl⟩ := lb_some hlr.out (by have := hn'.out.1; have := hlt'.out; omega)
          have cA := lb_at (hlr.out.below L.out.1.low) k (by have := hn'.out.1; have := hlt'.out; omega)
          have ia := fun v => idxB .i64 gr ro n capR k v hlt'.out
          obtain ⟨A, hA⟩ : ∃ A, rows.getD k 0 = A := ⟨_, rfl⟩
          obtain ⟨M, hM⟩ : ∃ A, mk d = A := ⟨_, rfl⟩
          rw [hA] at cA hs
          rw [hM] at s8 hs
          have qa := and8 A M
          have qz := nzero8 (A &&& M)
          obtain ⟨z, hz⟩ : ∃ z, (A &&& M).toNat = z := ⟨_, rfl⟩
          obtain ⟨a, ha⟩ : ∃ a, A.toNat = a := ⟨_, rfl⟩
          obtain ⟨m, hmm⟩ : ∃ a, M.toNat = a := ⟨_, rfl⟩
          rw [hz] at qa qz
          rw [ha, hmm] at qa
          rw [ha] at cA
          rw [hmm] at s8
          have hd' : Hid (d < 8) := hd8
          clear hz ha hmm hA hM hd
          by_cases h1 : A &&& M = 0
          · rw [if_pos (.inl h1)] at hs
            replace qz : ((z : Int) != 0) = false := by rw [qz, h1]; rfl
            have hs : Hid (goneS X Y rows p (8 * k + d + 1) = false) := hs
            clear h1 hd8
            go_wp2
            go_quiet (fail)
            go_wp2
            go_roundw
            case rel => exact ⟨d + 1, _, rfl, hd'.out, by simp, ⟨by first | exact fm_drew L.out.1 | exact L.out.1, hs.out⟩⟩
            case measure => have := hd'.out; simp [intOf]; omega
          replace qz : ((z : Int) != 0) = true := by rw [qz]; simpa using h1
          by_cases h2 : 64 ≤ X' + d
          · rw [if_pos (.inr (.inl h2))] at hs
            have q1 : decide ((X' : Int) + (d : Int) < 64) = false := by simp; omega
            have q1' : ¬ (X' : Int) + (d : Int) < 64 := by omega
            have hs : Hid (goneS X Y rows p (8 * k + d + 1) = false) := hs
            clear h1 h2 hd8
            go_wp2
            go_quiet (fail)
            go_wp2
            go_roundw
            case rel => exact ⟨d + 1, _, rfl, hd'.out, by simp, ⟨by first | exact fm_drew L.out.1 | exact L.out.1, hs.out⟩⟩
            case measure => have := hd'.out; simp [intOf]; omega
          have q1 : decide ((X' : Int) + (d : Int) < 64) = true := by simp; omega
          have q1' : (X' : Int) + (d : Int) < 64 := by omega
          by_cases h3 : 32 ≤ Y' + k
          · rw [if_pos (.inr (.inr h3))] at hs
            have q2 : decide ((Y' : Int) + (k : Int) < 32) = false := by simp; omega
            have q2' : ¬ (Y' : Int) + (k : Int) < 32 := by omega
            have hs : Hid (goneS X Y rows p (8 * k + d + 1) = false) := hs
            clear h1 h2 h3 hd8
            go_wp2
            go_quiet (fail)
            go_wp2
            go_roundw
            case rel => exact ⟨d + 1, _, rfl, hd'.out, by simp, ⟨by first | exact fm_drew L.out.1 | exact L.out.1, hs.out⟩⟩
            case measure => have := hd'.out; simp [intOf]; omega
          have q2 : decide ((Y' : Int) + (k : Int) < 32) = true := by simp; omega
          have q2' : (Y' : Int) + (k : Int) < 32 := by omega
          rw [if_neg (by rintro (h | h | h); exact h1 h; omega; omega)] at hs
          obtain ⟨gp, op, rfl⟩ := lb_some hl.out (by have := hp'.out; omega)
          obtain ⟨N, hN⟩ : ∃ N, 64 * (Y' + k) + (X' + d) = N := ⟨_, rfl⟩
          have cP := lb_at (hl.out.below L.out.1.low) (N / 8) (by have := hp'.out; omega)
          have e1 : N / 8 = 8 * (Y' + k) + (X' + d) / 8 := by omega
          have e2 : N % 8 = (X' + d) % 8 := by omega
          rw [hN] at hs
          unfold bitP at hs
          rw [e1, e2] at hs
          rw [e1] at cP
          have s2 := sh8 ((X' + d) % 8) (Nat.mod_lt _ (by decide))
          obtain ⟨O, hO⟩ : ∃ O, p.getD (8 * (Y' + k) + (X' + d) / 8) 0 = O := ⟨_, rfl⟩
          obtain ⟨Q, hQ⟩ : ∃ O, mk ((X' + d) % 8) = O := ⟨_, rfl⟩
          rw [hO] at hs cP
          rw [hQ] at hs s2
          have qo := and8 O Q
          have qoz := nzero8 (O &&& Q)
          rw [← hs] at qoz
          obtain ⟨o, ho⟩ : ∃ o, O.toNat = o := ⟨_, rfl⟩
          obtain ⟨r, hr⟩ : ∃ o, Q.toNat = o := ⟨_, rfl⟩
          obtain ⟨t, ht⟩ : ∃ o, (O &&& Q).toNat = o := ⟨_, rfl⟩
          rw [ht] at qo qoz
          rw [ho, hr] at qo
          rw [ho] at cP
          rw [hr] at s2
          clear h1 h2 h3 hN e1 e2 hO hQ ho hr ht hs hd8
          cases hg : goneS X Y rows p (8 * k + d + 1)
          · rw [hg] at qoz
            have hs : Hid (goneS X Y rows p (8 * k + d + 1) = false) := hg
            clear hg
            go_wp2
            go_quiet (fail)
            go_wp2
            go_roundw
            case rel => exact ⟨d + 1, _, rfl, hd'.out, by simp, ⟨by first | exact fm_drew L.out.1 | exact L.out.1, hs.out⟩⟩
            case measure => have := hd'.out; simp [intOf]; omega
          · rw [hg] at qoz
            have hfin : Hid (G = true) := by
              show G = true
              rw [← hG.out]
              exact gone_mono X Y rows p _ _ (by have := hlt'.out; omega) hg
            clear hg
            go_wp2
            go_quiet (fail)
            go_wp2
            go_ret
            exact ⟨by rw [hfin.out]; rfl, by first | exact below_drewN L.out.1.low | exact L.out.1.low⟩
        · have hde : d = 8 := by omega
          subst hde
          clear hd hd8
          go_wp2
          go_roundw
          case rel => exact ⟨k + 1, v, rfl, hlt'.out, by simp, L⟩
          case measure => have := hlt'.out; simp [intOf]; omega
    · have hke : k = n := by omega
      subst hke
      have hfin : Hid (G = false) := by
        show G = false
        rw [← hG.out]
        exact K.out.2
      clear hk hlt
      go_wp2
      go_ret
      exact ⟨by rw [hfin.out]; rfl, K.out.1.low⟩
end Go.Proofs.Ytiplellfpagclaa
