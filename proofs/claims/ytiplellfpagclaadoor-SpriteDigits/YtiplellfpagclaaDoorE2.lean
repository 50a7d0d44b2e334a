/- The sixteen pictures are unlike: the statement's walk. -/
import Derived.Test.YtiplellfpagclaaDoorE1
namespace Go.Proofs.YtiplellfpagclaaDoor
open Go Go.RowKit
set_option linter.unusedVariables false
set_option maxHeartbeats 1000000
set_option maxRecDepth 20000

theorem pic_low (n k : Nat) (hn : n < 16) (hk : k < 5) : bits .and .u8 (pic n k : Int) 15 = 0 ∧ ((pic n k : Int) == 0) = false := by
  have : ∀ (a : Fin 16) (b : Fin 5), bits .and .u8 (pic a.val b.val : Int) 15 = 0 ∧ ((pic a.val b.val : Int) == 0) = false := by decide +kernel
  exact this ⟨n, hn⟩ ⟨k, hk⟩
theorem dg_at (n k : Nat) (hk : k < 5) : (dgC n)[k]? = some (.int .u8 (pic n k : Nat)) := by
  have : k = 0 ∨ k = 1 ∨ k = 2 ∨ k = 3 ∨ k = 4 := by omega
  rcases this with rfl | rfl | rfl | rfl | rfl <;> rfl
theorem eqZ : Eqs Tryd.prog 22 #[.int .u8 0, .int .u8 0, .int .u8 0, .int .u8 0, .int .u8 0] #[.int .u8 0, .int .u8 0, .int .u8 0, .int .u8 0, .int .u8 0] true := by
  have := eqDg 16 16
  rw [dg_same, dg_big 16 (by decide)] at this
  exact this
theorem digits_walk (w : World) (T : Hid (Tg w)) : Calls Tryd.prog 3 #[] w fun e w' => e = .returned (.bool true) ∧ Below w.heap.size w w' := by
  have hD : Hid (∀ (y : World) (n : Nat), n < 256 → Below w.heap.size w y → Calls Tryd.prog 5 #[.int .u8 (n : Int)] y fun e w' => e = .returned (.agg (dgC n)) ∧ Below y.heap.size y w') := fun y n hn hb => digit_any y n hn (T.out.below hb)
  have hz := zeroDg
  go_enter Tryd.func3, Tryd.ntmps3
  go_wp2
  go_loopw [1] (fun nv wz => ∃ (n : Nat) (y : World), y = wz ∧ n ≤ 256 ∧ nv = .int .i64 (n : Int) ∧ Hid (Below w.heap.size w y)) (fun nv _ => (256 - intOf nv).toNat)
  case atStart => exact ⟨0, w, rfl, by omega, rfl, Below.refl _ _⟩
  case round =>
    obtain ⟨n, y, rfl, hn, rfl, K⟩ := hrel
    by_cases hlt : n < 256
    · have hni : (n : Int) < 256 := by omega
      have hcall := hD.out y n hlt K.out
      have hlt' : Hid (n < 256) := hlt
      by_cases h16 : n < 16
      · have q1 : decide ((15 : Int) < (n : Int)) = false := by simp; omega
        have q2 : decide ((n : Int) < 16) = true := by simp; omega
        have q2' : (n : Int) < 16 := by omega
        have h16' : Hid (n < 16) := h16
        clear hn hlt h16
        go_wp2_with (first
          | (go_at_call 5; refine hcall.mono ?_; rintro e y1 ⟨rfl, H1⟩; have F1 : Hid (Below w.heap.size w y1) := K.out.trans (H1.mono K.out.size))
          | ((with_reducible refine at_st rtDg y1.heap.size #[.int .u8 0, .int .u8 0, .int .u8 0, .int .u8 0, .int .u8 0] (dgC n) ?_ ?_ ?_ ?_ (.tmp 2) (.tmp 11) ?_ ?_ ?_ ?_ ?_); exact (Fm.one y1 #[.int .u8 0, .int .u8 0, .int .u8 0, .int .u8 0, .int .u8 0] 22).bx 0 _ _ _ rfl; rfl; rfl; exact dg_one n; rfl; rfl; rfl; rfl; intro y2 H2; have F2 : Hid (Bx y2 y1.heap.size (dgC n) 22 ∧ Below w.heap.size w y2) := ⟨H2.out.1, (F1.out.alloc F1.out.size _).trans (H2.out.2.1 _ F1.out.size)⟩))
        --HERE
        obtain ⟨b, hb⟩ : ∃ b, y1.heap.size = b := ⟨_, rfl⟩
        rw [hb] at F2 ⊢
        clear H2 H1 hcall hb K
        go_loopw [3] (fun kv wz => ∃ (k : Nat) (u : World), u = wz ∧ k ≤ 5 ∧ kv = .int .i64 (k : Int) ∧ Hid (Bx u b (dgC n) 22 ∧ Below w.heap.size w u)) (fun kv _ => (5 - intOf kv).toNat)
        case atStart => exact ⟨0, y2, rfl, by omega, rfl, F2⟩
        case round =>
          obtain ⟨k, u, rfl, hk, rfl, L⟩ := hrel
          clear F2
          by_cases hk5 : k < 5
          · have hki : (k : Int) < 5 := by omega
            have r1 : decide ((k : Int) < 5) = true := by simp; omega
            have hp := pic_low n k h16'.out hk5
            have p1 := hp.1
            have p2 := hp.2
            have c1 := L.out.1.c k _ (dg_at n k hk5)
            have ix := fun v => idx (g := b) (off := 0) (N := 5) (s := 1) Tryd.underlying22 (by kernel_rfl) .i64 k v hk5
            simp only [Nat.zero_add, Nat.mul_one] at ix
            obtain ⟨a, ha⟩ : ∃ a, pic n k = a := ⟨_, rfl⟩
            rw [ha] at p1 p2 c1
            have hk' : Hid (k < 5) := hk5
            clear hk hk5 hp ha
            go_wp2
            go_roundw
            case rel => exact ⟨k + 1, u, rfl, hk'.out, by simp, L⟩
            case measure => have := hk'.out; simp [intOf]; omega
          · have hke : k = 5 := by omega
            subst hke
            clear hk hk5
            go_wp2
            go_loopw [4] (fun mv wz => ∃ (m : Nat) (u : World), u = wz ∧ m ≤ n ∧ mv = .int .i64 (m : Int) ∧ Hid (Bx u b (dgC n) 22 ∧ Below w.heap.size w u)) (fun mv _ => (n - intOf mv).toNat)
            case atStart => exact ⟨0, u, rfl, by omega, rfl, L⟩
            case round =>
              obtain ⟨m, v, rfl, hm, rfl, M⟩ := hrel
              clear L
              by_cases hmn : m < n
              · have hmi : (m : Int) < (n : Int) := by omega
                have r1 : decide ((m : Int) < (n : Int)) = true := by simp; omega
                have hE : Hid (Eqs Tryd.prog 22 (dgC n) (dgC m) false) := by
                  have := eqDg n m
                  rw [dg_unlike n m hmn h16'.out] at this
                  exact this
                have hcm : Hid (∀ y, Below v.heap.size v y → Calls Tryd.prog 5 #[.int .u8 (m : Int)] y fun e w' => e = .returned (.agg (dgC m)) ∧ Below y.heap.size y w') := fun y hy => hD.out y m (by have := h16'.out; omega) (M.out.2.trans (hy.mono M.out.2.size))
                have hmn' : Hid (m < n) := hmn
                have hm256 : (m : Int) < 256 := by have := hlt'.out; omega
                have hwm : IntKind.u8.wrap (m : Int) = (m : Int) := by unfold IntKind.wrap; simp [IntKind.bits, IntKind.signed]; omega
                clear hm hmn
                go_wp2
                refine region_class_tail 4 (fun z => Below v.heap.size v z) (by kernel_rfl) (by kernel_rfl) (below_drew (Below.refl _ _)) ?_
                simp only [List.take_succ_cons, List.take_zero, List.drop_succ_cons, List.drop_zero]
                refine quiet_one (.agg (dgC n)) (by kernel_rfl) (q_load rtDg b (dgC n) (fun z hz => (hz.block b (heap_lt M.out.1)).trans M.out.1) rfl (.tmp 2) rfl rfl) ?_
                refine quiet_one (.int .i64 (m : Int)) (by kernel_rfl) (fun z hz => by go_simp) ?_
                refine quiet_one (.int .u8 (m : Int)) (by kernel_rfl) (fun z hz => by
                  go_simp
                  all_goals exact hwm) ?_
                refine quiet_one (.agg (dgC m)) (by kernel_rfl) (fun z hz => by
                  have d := (hcm.out z hz).mono fun e w' (h : _ ∧ _) => And.intro h.1 (show Below v.heap.size v w' from hz.trans (h.2.mono hz.size))
                  go_simp
                  all_goals exact d) ?_
                refine wpQuiet_nil ?_
                intro z hz
                have M2 : Hid (Bx z b (dgC n) 22 ∧ Below w.heap.size w z) := ⟨(hz.block b (heap_lt M.out.1)).trans M.out.1, M.out.2.trans (hz.mono M.out.2.size)⟩
                clear hz M hcm
                have he := hE.out.e
                go_wp2
                go_roundw
                case rel => (repeat apply Exists.intro); exact ⟨⟨m + 1, z, rfl, hmn'.out, by simp, M2⟩, rfl⟩
                case measure => have := hmn'.out; simp [intOf]; omega
              · have hme : m = n := by omega
                subst hme
                clear hm hmn
                go_wp2
                go_roundw
                case rel => exact ⟨m + 1, v, rfl, hlt'.out, by simp, M.out.2⟩
                case measure => have := hlt'.out; simp [intOf]; omega
      · have q1 : decide ((15 : Int) < (n : Int)) = true := by simp; omega
        have q2 : decide ((n : Int) < 16) = false := by simp; omega
        have q2' : ¬ (n : Int) < 16 := by omega
        rw [dg_big n (by omega)] at hcall
        have hbz : Hid (Tryd.prog.built 22 [] = some #[.int .u8 0, .int .u8 0, .int .u8 0, .int .u8 0, .int .u8 0]) := by show _ = _; kernel_rfl
        have hEz : Hid (Eqs Tryd.prog 22 #[.int .u8 0, .int .u8 0, .int .u8 0, .int .u8 0, .int .u8 0] #[.int .u8 0, .int .u8 0, .int .u8 0, .int .u8 0, .int .u8 0] true) := eqZ
        have hez := eqZ.e
        have hlt2 : Hid (n < 256) := hlt
        clear hn hlt h16
        go_wp2_with (first
          | (go_at_call 5; refine hcall.mono ?_; rintro e y1 ⟨rfl, H1⟩; have F1 : Hid (Below w.heap.size w y1) := K.out.trans (H1.mono K.out.size); have F2 : Hid (Fm y1 [(y1.heap.size, #[.int .u8 0, .int .u8 0, .int .u8 0, .int .u8 0, .int .u8 0], 22)] (y1.alloc (.cells #[.int .u8 0, .int .u8 0, .int .u8 0, .int .u8 0, .int .u8 0] 22))) := Fm.one y1 _ _)
          | ((with_reducible refine at_load rtDg y1.heap.size #[.int .u8 0, .int .u8 0, .int .u8 0, .int .u8 0, .int .u8 0] ?_ ?_ (.tmp 2) ?_ ?_ ?_ ?_); exact F2.out.bx 0 _ _ _ rfl; rfl; kernel_rfl; rfl; rfl)
          | ((with_reducible refine at_bu #[] [] #[.int .u8 0, .int .u8 0, .int .u8 0, .int .u8 0, .int .u8 0] ?_ ?_ ?_ hbz.out ?_); kernel_rfl; rfl; rfl)
          | (fail))
        go_loopw [3] (fun kv wz => ∃ u : World, u = wz ∧ kv = .int .i64 0 ∧ Hid (Below w.heap.size w u)) (fun kv _ => 0)
        case atStart => exact ⟨_, rfl, rfl, F1.out.alloc F1.out.size _⟩
        case round =>
          obtain ⟨u, rfl, rfl, L⟩ := hrel
          clear F1 F2 H1 hcall K
          go_wp2
          go_loopw [4] (fun mv wz => ∃ u : World, u = wz ∧ mv = .int .i64 0 ∧ Hid (Below w.heap.size w u)) (fun mv _ => 0)
          case atStart => exact ⟨u, rfl, rfl, L⟩
          case round =>
            obtain ⟨v, rfl, rfl, M⟩ := hrel
            have r1 : decide ((0 : Int) < (n : Int)) = true := by simp; omega
            have r2 : (0 : Int) < (n : Int) := by omega
            go_wp2
            all_goals
              go_roundw
              case rel => exact ⟨n + 1, v, rfl, hlt2.out, by simp, M⟩
              case measure => have := hlt2.out; simp [intOf]; omega
    · have hne : n = 256 := by omega
      subst hne
      have h0 := hD.out y 0 (by decide) K.out
      have h15 : Hid (∀ z, Below w.heap.size w z → Calls Tryd.prog 5 #[.int .u8 15] z fun e w' => e = .returned (.agg (dgC 15)) ∧ Below z.heap.size z w') := fun z hz => hD.out z 15 (by decide) hz
      have b0 : Hid (Tryd.prog.built 22 [(0, .int .u8 240), (1, .int .u8 144), (2, .int .u8 144), (3, .int .u8 144), (4, .int .u8 240)] = some #[.int .u8 240, .int .u8 144, .int .u8 144, .int .u8 144, .int .u8 240]) := by show _ = _; kernel_rfl
      have b1 : Hid (Tryd.prog.built 22 [(0, .int .u8 240), (1, .int .u8 128), (2, .int .u8 240), (3, .int .u8 128), (4, .int .u8 128)] = some #[.int .u8 240, .int .u8 128, .int .u8 240, .int .u8 128, .int .u8 128]) := by show _ = _; kernel_rfl
      have d0 : dgC 0 = #[.int .u8 240, .int .u8 144, .int .u8 144, .int .u8 144, .int .u8 240] := by kernel_rfl
      have d15 : dgC 15 = #[.int .u8 240, .int .u8 128, .int .u8 240, .int .u8 128, .int .u8 128] := by kernel_rfl
      have e0 := (eqDg 0 0).e
      have e15 := (eqDg 15 15).e
      rw [dg_same, d0] at e0
      rw [dg_same, d15] at e15
      rw [d0] at h0
      rw [d15] at h15
      clear hn hlt d0 d15
      go_wp2_with (first
        | (go_at_call 5; refine (h15.out y1 F1.out).mono ?_; rintro e y2 ⟨rfl, H2⟩; clear h15)
        | (go_at_call 5; refine h0.mono ?_; rintro e y1 ⟨rfl, H1⟩; have F1 : Hid (Below w.heap.size w y1) := K.out.trans (H1.mono K.out.size); clear h0)
        | ((with_reducible refine at_bu #[(0, .const (.int .u8 240)), (1, .const (.int .u8 144)), (2, .const (.int .u8 144)), (3, .const (.int .u8 144)), (4, .const (.int .u8 240))] [(0, .int .u8 240), (1, .int .u8 144), (2, .int .u8 144), (3, .int .u8 144), (4, .int .u8 240)] #[.int .u8 240, .int .u8 144, .int .u8 144, .int .u8 144, .int .u8 240] ?_ ?_ ?_ b0.out ?_); kernel_rfl; rfl; rfl)
        | ((with_reducible refine at_bu #[(0, .const (.int .u8 240)), (1, .const (.int .u8 128)), (2, .const (.int .u8 240)), (3, .const (.int .u8 128)), (4, .const (.int .u8 128))] [(0, .int .u8 240), (1, .int .u8 128), (2, .int .u8 240), (3, .int .u8 128), (4, .int .u8 128)] #[.int .u8 240, .int .u8 128, .int .u8 240, .int .u8 128, .int .u8 128] ?_ ?_ ?_ b1.out ?_); kernel_rfl; rfl; rfl))
      go_ret
      exact ⟨rfl, F1.out.trans (H2.mono F1.out.size)⟩
end Go.Proofs.YtiplellfpagclaaDoor
