/- The laws: names; there and back. -/
import Derived.Test.YtehnhjdjjalifaaDoorQ17
namespace Go.Proofs.YtehnhjdjjalifaaDoor
open Go Go.RowKit Go.Shelf
set_option linter.unusedVariables false
set_option maxHeartbeats 4000000
set_option maxRecDepth 20000

theorem sv_ok (w : World) (tb : Hid (Tbs w)) (s : Bd) (h : chkB s = 0) (P : List UInt8) (hP : savB s = P) : ∀ y M, Below w.heap.size w y → BL y M s → Calls Tryd.prog 7 #[.agg M] y fun e w' => ∃ sp cap, e = .returned (.tuple #[.slice sp P.length cap, .int .i64 0]) ∧ Hid (Below y.heap.size y w' ∧ LB w' sp P ∧ P.length ≤ cap ∧ OwnL 5 1 cB y.heap.size w' (.slice sp P.length cap) P) := fun y M hy hM => (psave_any y (tb.out.below hy) M s hM).mono fun e w' k => by
  rcases k with ⟨_, v, e1, k⟩ | ⟨k, _⟩
  · rw [hP] at k
    obtain ⟨sp, cap, hv, hb, _, _, hc⟩ := k.out.own.open kByte.len
    subst hv
    exact ⟨sp, cap, e1, k.out.low, hb, hc, k.out.own⟩
  · exact absurd h k
theorem sv_no (w : World) (tb : Hid (Tbs w)) (s : Bd) (h : chkB s ≠ 0) : ∀ y M, Below w.heap.size w y → BL y M s → Calls Tryd.prog 7 #[.agg M] y fun e w' => e = .returned (.tuple #[.slice none 0 0, .int .i64 212]) ∧ Hid (Below y.heap.size y w') := fun y M hy hM => (psave_any y (tb.out.below hy) M s hM).mono fun e w' k => by
  rcases k with ⟨k, _⟩ | ⟨_, k⟩
  · exact absurd k h
  · exact k
theorem lo_ok (w : World) (tb : Hid (Tbs w)) (l : List UInt8) (s : Bd) (hn : l.length ≤ 4000000000) (h1 : formB l = true) (h2 : sumOk l = true) (h3 : bdOf l = s) (h4 : chkB s = 0) : ∀ y sp cap, Below w.heap.size w y → LB y sp l → l.length ≤ cap → Calls Tryd.prog 8 #[.slice sp l.length cap] y fun e w' => ∃ M, e = .returned (.tuple #[.agg M, .int .i64 0]) ∧ Hid (Below y.heap.size y w' ∧ BL w' M s ∧ MOk y l M w') := fun y sp cap hy hl hc => (pload_any y (tb.out.below hy) sp cap l hl hn hc).mono fun e w' h => by
  obtain ⟨M, E, e1, hb, k⟩ := zLd y h
  rcases k with ⟨_, _, _, k, hM⟩ | ⟨k, _⟩
  · subst k
    refine ⟨M, e1, hb.out, ?_, hM.out⟩
    have := hM.out.bl
    rw [h3] at this
    exact this
  · exact absurd ⟨h1, h2, by rw [h3]; exact h4⟩ k
theorem lo_no (w : World) (tb : Hid (Tbs w)) (l : List UInt8) (hn : l.length ≤ 4000000000) (h : ¬ (formB l = true ∧ sumOk l = true ∧ chkB (bdOf l) = 0)) : ∃ E : Int, (E != 0) = true ∧ (E == 0) = false ∧ ∀ y sp cap, Below w.heap.size w y → LB y sp l → l.length ≤ cap → Calls Tryd.prog 8 #[.slice sp l.length cap] y fun e w' => e = .returned (.tuple #[.agg zBd, .int .i64 E]) ∧ Hid (Below y.heap.size y w') := by
  by_cases hf : formB l = true
  · by_cases hs : sumOk l = true
    · refine ⟨212, rfl, rfl, fun y sp cap hy hl hc => (pload_any y (tb.out.below hy) sp cap l hl hn hc).mono fun e w' k => ?_⟩
      rcases k with ⟨k, _⟩ | ⟨_, k, _⟩ | ⟨_, _, _, k⟩ | ⟨_, _, k, _⟩
      · rw [hf] at k; cases k
      · rw [hs] at k; cases k
      · exact k
      · exact absurd ⟨hf, hs, k⟩ h
    · refine ⟨211, rfl, rfl, fun y sp cap hy hl hc => (pload_any y (tb.out.below hy) sp cap l hl hn hc).mono fun e w' k => ?_⟩
      rcases k with ⟨k, _⟩ | ⟨_, _, k⟩ | ⟨_, k, _⟩ | ⟨_, k, _⟩
      · rw [hf] at k; cases k
      · exact k
      · exact absurd k hs
      · exact absurd k hs
  · refine ⟨210, rfl, rfl, fun y sp cap hy hl hc => (pload_any y (tb.out.below hy) sp cap l hl hn hc).mono fun e w' k => ?_⟩
    rcases k with ⟨_, k⟩ | ⟨k, _⟩ | ⟨k, _⟩ | ⟨k, _⟩
    · exact k
    · exact absurd k hf
    · exact absurd k hf
    · exact absurd k hf
theorem names_walk (w : World) (tb : Hid (Tbs w)) : Calls Tryd.prog 3 #[] w fun e w' => e = .returned (.bool true) ∧ Below w.heap.size w w' := by
  go_enter Tryd.func3, Tryd.ntmps3
  go_wp2_with (go_at_call 6; refine (awake_any w tb).mono ?_; rintro e y0 ⟨rfl, H⟩; have K0 : Hid (Below w.heap.size w y0) := H; clear H)
  go_ret
  exact ⟨rfl, K0.out⟩
theorem back_big (w : World) (C : Array Value) (s : Bd)     (hs : Hid (BL w C s)) (hR : (s.ram.length : Int) ≤ 9223372036854775807) (hO : (s.rom.length : Int) ≤ 9223372036854775807) (sp : Option Addr) (n cap : Nat) (hn : (n : Int) ≤ 9223372036854775807) (h : 2147483647 < s.ram.length ∨ 2147483647 < s.rom.length ∨ 2147483647 < n) :
    Calls Tryd.prog 4 #[.agg C, .slice sp n cap] w fun e w' => e = .returned (.bool true) ∧ Below w.heap.size w w' := by
  obtain ⟨sR, cR, sO, cO, hCe, _, _⟩ := hs.out.c
  have hfC : Hid (C.size = 35 ∧ C.all (·.oneCell') = true) := BL.facts hs.out
  obtain ⟨nR, hnR⟩ : ∃ z, s.ram.length = z := ⟨_, rfl⟩
  obtain ⟨nO, hnO⟩ : ∃ z, s.rom.length = z := ⟨_, rfl⟩
  have hc : Hid (C[32]? = some (.slice sR nR cR) ∧ C[33]? = some (.slice sO nO cO)) := by
    rw [hCe, hnR, hnO]
    exact ⟨rfl, rfl⟩
  rw [hnR] at hR
  rw [hnO] at hO
  rw [hnR, hnO] at h
  clear hCe hs hfC hnR hnO
  by_cases h1 : 2147483647 < nR
  · have d1 : decide ((2147483647 : Int) < (nR : Int)) = true := decide_eq_true (by omega)
    have d1' : decide (2147483647 < nR) = true := decide_eq_true (by omega)
    clear h h1
    go_enter Tryd.func4, Tryd.ntmps4
    go_wp2_with ((with_reducible refine gen_world (w.alloc (.cells C 35)) (Fm w [(w.heap.size, C, 35)]) ?_ ?_); exact Fm.one w _ _; intro y0 K0; have c32 := (K0.out.bx 0 _ _ _ rfl).c 32 _ hc.out.1; have c33 := (K0.out.bx 0 _ _ _ rfl).c 33 _ hc.out.2)
    go_ret
    exact ⟨rfl, K0.out.low⟩
  · by_cases h2 : 2147483647 < nO
    · have d1 : decide ((2147483647 : Int) < (nR : Int)) = false := decide_eq_false (by omega)
      have d1' : decide (2147483647 < nR) = false := decide_eq_false (by omega)
      have d2 : decide ((2147483647 : Int) < (nO : Int)) = true := decide_eq_true (by omega)
      have d2' : decide (2147483647 < nO) = true := decide_eq_true (by omega)
      clear h h1 h2
      go_enter Tryd.func4, Tryd.ntmps4
      go_wp2_with ((with_reducible refine gen_world (w.alloc (.cells C 35)) (Fm w [(w.heap.size, C, 35)]) ?_ ?_); exact Fm.one w _ _; intro y0 K0; have c32 := (K0.out.bx 0 _ _ _ rfl).c 32 _ hc.out.1; have c33 := (K0.out.bx 0 _ _ _ rfl).c 33 _ hc.out.2)
      go_ret
      exact ⟨rfl, K0.out.low⟩
    · have h3 : 2147483647 < n := by omega
      have d1 : decide ((2147483647 : Int) < (nR : Int)) = false := decide_eq_false (by omega)
      have d1' : decide (2147483647 < nR) = false := decide_eq_false (by omega)
      have d2 : decide ((2147483647 : Int) < (nO : Int)) = false := decide_eq_false (by omega)
      have d2' : decide (2147483647 < nO) = false := decide_eq_false (by omega)
      have d3 : decide ((2147483647 : Int) < (n : Int)) = true := decide_eq_true (by omega)
      have d3' : decide (2147483647 < n) = true := decide_eq_true (by omega)
      clear h h1 h2 h3
      go_enter Tryd.func4, Tryd.ntmps4
      go_wp2_with ((with_reducible refine gen_world (w.alloc (.cells C 35)) (Fm w [(w.heap.size, C, 35)]) ?_ ?_); exact Fm.one w _ _; intro y0 K0; have c32 := (K0.out.bx 0 _ _ _ rfl).c 32 _ hc.out.1; have c33 := (K0.out.bx 0 _ _ _ rfl).c 33 _ hc.out.2)
      go_ret
      exact ⟨rfl, K0.out.low⟩
theorem back_00 (w : World) (tb : Hid (Tbs w)) (C : Array Value) (s : Bd)     (hs : Hid (BL w C s)) (hR : (s.ram.length : Int) ≤ 9223372036854775807) (hO : (s.rom.length : Int) ≤ 9223372036854775807) (sp : Option Addr) (cap : Nat) (l : List UInt8) (hl : Hid (LB w sp l)) (hcap : l.length ≤ cap) (h1 : s.ram.length ≤ 2147483647) (h2 : s.rom.length ≤ 2147483647) (h3 : l.length ≤ 2147483647) (hA : chkB s ≠ 0) (hB : ¬ (formB l = true ∧ sumOk l = true ∧ chkB (bdOf l) = 0)) :
    Calls Tryd.prog 4 #[.agg C, .slice sp l.length cap] w fun e w' => e = .returned (.bool true) ∧ Below w.heap.size w w' := by
  have hAw : Hid (∀ y, Below w.heap.size w y → Calls Tryd.prog 6 #[] y fun e w' => e = .returned (.bool true) ∧ Below y.heap.size y w') := fun y hy => awake_any y (tb.out.below hy)
  have hSv : Hid _ := sv_no w tb s hA
  have hsB : Hid (BL w C s) := hs
  obtain ⟨E, qE1, qE2, hL2'⟩ := lo_no w tb l (by omega) hB
  have hL2 : Hid _ := hL2'
  obtain ⟨sR, cR, sO, cO, hCe, _, _⟩ := hs.out.c
  have hfC : Hid (C.size = 35 ∧ C.all (·.oneCell') = true) := BL.facts hs.out
  obtain ⟨nR, hnR⟩ : ∃ z, s.ram.length = z := ⟨_, rfl⟩
  obtain ⟨nO, hnO⟩ : ∃ z, s.rom.length = z := ⟨_, rfl⟩
  have hc : Hid (C[32]? = some (.slice sR nR cR) ∧ C[33]? = some (.slice sO nO cO)) := by
    rw [hCe, hnR, hnO]
    exact ⟨rfl, rfl⟩
  rw [hnR] at hR
  rw [hnO] at hO
  rw [hnR] at h1
  rw [hnO] at h2
  obtain ⟨n, hn'⟩ : ∃ z, l.length = z := ⟨_, rfl⟩
  rw [hn'] at hcap h3 hL2 ⊢
  have hcap' : Hid (n ≤ cap) := hcap
  have d1 : decide ((2147483647 : Int) < (nR : Int)) = false := decide_eq_false (by omega)
  have d1' : decide (2147483647 < nR) = false := decide_eq_false (by omega)
  have d2 : decide ((2147483647 : Int) < (nO : Int)) = false := decide_eq_false (by omega)
  have d2' : decide (2147483647 < nO) = false := decide_eq_false (by omega)
  have d3 : decide ((2147483647 : Int) < (n : Int)) = false := decide_eq_false (by omega)
  have d3' : decide (2147483647 < n) = false := decide_eq_false (by omega)
  have inn : (n : Int) ≤ 2147483647 := by omega
  clear tb hs hR hO hCe hnR hnO h1 h2 h3 hn' hcap hA hB hL2'
  go_enter Tryd.func4, Tryd.ntmps4
  go_wp2_with (first
    | (go_at_call 6; refine (hAw.out y8 K8.out.2).mono ?_; rintro e z0 ⟨rfl, H⟩; have N0 : Hid (Below w.heap.size w z0) := K8.out.2.trans (H.mono K8.out.2.size); clear H)
    | ((with_reducible refine at_st rtBd y6.heap.size zBd zBd ?_ ?_ ?_ ?_ (.tmp 9) (.tmp 51) ?_ ?_ ?_ ?_ ?_); exact K7.out.1; rfl; rfl; exact zBd_one; rfl; rfl; rfl; rfl; intro y8 h8; have b8 : Below y6.heap.size y6 y8 := K7.out.2.trans (h8.out.2.1 _ (Nat.le_refl _)); have K8 : Hid (Bx y8 y6.heap.size zBd 35 ∧ Below w.heap.size w y8) := ⟨h8.out.1, K6.out.trans (b8.mono K6.out.size)⟩; have e32 := K8.out.1.c 32 (.slice none 0 0) rfl; clear h8 K7 b8)
    | ((with_reducible refine gen_world (y6.alloc (.cells #[.int .u16 0, .int .u16 0, .int .u16 0, .int .u16 0, .int .u16 0, .int .u16 0, .int .u16 0, .int .u16 0, .int .u16 0, .int .u16 0, .int .u16 0, .int .u16 0, .int .u16 0, .int .u16 0, .int .u16 0, .int .u16 0, .int .u8 0, .bool false, .int .u8 0, .int .u8 0, .int .u8 0, .bool false, .bool false, .int .u8 0, .int .u8 0, .int .u8 0, .int .i64 0, .int .i64 0, .bool false, .int .i64 0, .int .u8 0, .bool false, .slice none 0 0, .slice none 0 0, .int .u64 0] 35)) (fun z => Bx z y6.heap.size zBd 35 ∧ Below y6.heap.size y6 z) ?_ ?_); exact ⟨one_bxL _ _ _, below1 y6 _⟩; intro y7 K7)
    | (go_at_call 8; refine (hL2.out y5 sp cap K5.out (hl.out.below K5.out) hcap'.out).mono ?_; rintro e y6 ⟨rfl, H⟩; have K6 : Hid (Below w.heap.size w y6) := K5.out.trans (H.out.mono K5.out.size); clear H)
    | ((with_reducible refine at_load rtBd w.heap.size C ?_ ?_ (.tmp 2) ?_ ?_ ?_ ?_); exact K0.out.bx 0 _ _ _ rfl; exact hfC.out.1; kernel_rfl; rfl; rfl)
    | (go_at_call 7; refine (hSv.out y0 C K0.out.low (hsB.out.below K0.out.low)).mono ?_; rintro e y5 ⟨rfl, H⟩; have K5 : Hid (Below w.heap.size w y5) := K0.out.low.trans (H.out.mono K0.out.low.size); clear H)
    | ((with_reducible refine gen_world (w.alloc (.cells C 35)) (Fm w [(w.heap.size, C, 35)]) ?_ ?_); exact Fm.one w _ _; intro y0 K0; have c32 := (K0.out.bx 0 _ _ _ rfl).c 32 _ hc.out.1; have c33 := (K0.out.bx 0 _ _ _ rfl).c 33 _ hc.out.2))
  go_ret
  exact ⟨rfl, N0.out⟩
theorem back_01 (w : World) (tb : Hid (Tbs w)) (C : Array Value) (s : Bd)     (hs : Hid (BL w C s)) (hR : (s.ram.length : Int) ≤ 9223372036854775807) (hO : (s.rom.length : Int) ≤ 9223372036854775807) (sp : Option Addr) (cap : Nat) (l : List UInt8) (hl : Hid (LB w sp l)) (hcap : l.length ≤ cap) (h1 : s.ram.length ≤ 2147483647) (h2 : s.rom.length ≤ 2147483647) (h3 : l.length ≤ 2147483647) (hA : chkB s ≠ 0) (hB : (formB l = true ∧ sumOk l = true ∧ chkB (bdOf l) = 0)) :
    Calls Tryd.prog 4 #[.agg C, .slice sp l.length cap] w fun e w' => e = .returned (.bool true) ∧ Below w.heap.size w w' := by
  have hAw : Hid (∀ y, Below w.heap.size w y → Calls Tryd.prog 6 #[] y fun e w' => e = .returned (.bool true) ∧ Below y.heap.size y w') := fun y hy => awake_any y (tb.out.below hy)
  have hSv : Hid _ := sv_no w tb s hA
  have hsB : Hid (BL w C s) := hs
  have hL2 : Hid _ := lo_ok w tb l (bdOf l) (by omega) hB.1 hB.2.1 rfl hB.2.2
  have hS2 : Hid _ := sv_ok w tb (bdOf l) hB.2.2 l (sav_load l hB.1 hB.2.1)
  obtain ⟨S, hS⟩ : ∃ z : ByteArray, ⟨l.toArray⟩ = z := ⟨_, rfl⟩
  have hcv : Hid (∀ y sp cap, LB y sp l → (convert 32 9 (.slice sp l.length cap)).run Tryd.prog y = .ok (.string S) y) := fun y sp cap h => by rw [← hS]; exact conv21 h cap
  obtain ⟨sR, cR, sO, cO, hCe, _, _⟩ := hs.out.c
  have hfC : Hid (C.size = 35 ∧ C.all (·.oneCell') = true) := BL.facts hs.out
  obtain ⟨nR, hnR⟩ : ∃ z, s.ram.length = z := ⟨_, rfl⟩
  obtain ⟨nO, hnO⟩ : ∃ z, s.rom.length = z := ⟨_, rfl⟩
  have hc : Hid (C[32]? = some (.slice sR nR cR) ∧ C[33]? = some (.slice sO nO cO)) := by
    rw [hCe, hnR, hnO]
    exact ⟨rfl, rfl⟩
  rw [hnR] at hR
  rw [hnO] at hO
  rw [hnR] at h1
  rw [hnO] at h2
  obtain ⟨n, hn'⟩ : ∃ z, l.length = z := ⟨_, rfl⟩
  rw [hn'] at hcap h3 hL2 ⊢
  rw [hn'] at hS2 hcv
  have hcap' : Hid (n ≤ cap) := hcap
  have d1 : decide ((2147483647 : Int) < (nR : Int)) = false := decide_eq_false (by omega)
  have d1' : decide (2147483647 < nR) = false := decide_eq_false (by omega)
  have d2 : decide ((2147483647 : Int) < (nO : Int)) = false := decide_eq_false (by omega)
  have d2' : decide (2147483647 < nO) = false := decide_eq_false (by omega)
  have d3 : decide ((2147483647 : Int) < (n : Int)) = false := decide_eq_false (by omega)
  have d3' : decide (2147483647 < n) = false := decide_eq_false (by omega)
  have inn : (n : Int) ≤ 2147483647 := by omega
  clear tb hs hR hO hCe hnR hnO h1 h2 h3 hn' hcap hA hB hS
  go_enter Tryd.func4, Tryd.ntmps4
  go_wp2_with (first
    | (go_at_call 6; refine (hAw.out y9 K9.out).mono ?_; rintro e z0 ⟨rfl, H⟩; have N0 : Hid (Below w.heap.size w z0) := K9.out.trans (H.mono K9.out.size); clear H)
    | (go_at_call 7; refine (hS2.out y8 M6 K8.out.2.1 K8.out.2.2).mono ?_; rintro e y9 ⟨s9, c9, rfl, H⟩; have K9 : Hid (Below w.heap.size w y9) := K8.out.2.1.trans (H.out.1.mono K8.out.2.1.size); have v1 := hcv.out y9 s9 c9 H.out.2.1; have v2 := hcv.out y9 sp cap (hl.out.below K9.out); clear H)
    | ((with_reducible refine at_load rtBd y6.heap.size M6 ?_ ?_ (.tmp 9) ?_ ?_ ?_ ?_); exact K8.out.1; exact hM6.out.1; kernel_rfl; rfl; rfl)
    | ((with_reducible refine at_st rtBd y6.heap.size zBd M6 ?_ ?_ ?_ ?_ (.tmp 9) (.tmp 51) ?_ ?_ ?_ ?_ ?_); exact K7.out.1; rfl; exact hM6.out.1; exact hM6.out.2; rfl; rfl; rfl; rfl; intro y8 h8; have b8 : Below y6.heap.size y6 y8 := K7.out.2.trans (h8.out.2.1 _ (Nat.le_refl _)); have K8 : Hid (Bx y8 y6.heap.size M6 35 ∧ Below w.heap.size w y8 ∧ BL y8 M6 (bdOf l)) := ⟨h8.out.1, K6.out.1.trans (b8.mono K6.out.1.size), K6.out.2.below b8⟩; clear h8 K7 b8)
    | ((with_reducible refine gen_world (y6.alloc (.cells #[.int .u16 0, .int .u16 0, .int .u16 0, .int .u16 0, .int .u16 0, .int .u16 0, .int .u16 0, .int .u16 0, .int .u16 0, .int .u16 0, .int .u16 0, .int .u16 0, .int .u16 0, .int .u16 0, .int .u16 0, .int .u16 0, .int .u8 0, .bool false, .int .u8 0, .int .u8 0, .int .u8 0, .bool false, .bool false, .int .u8 0, .int .u8 0, .int .u8 0, .int .i64 0, .int .i64 0, .bool false, .int .i64 0, .int .u8 0, .bool false, .slice none 0 0, .slice none 0 0, .int .u64 0] 35)) (fun z => Bx z y6.heap.size zBd 35 ∧ Below y6.heap.size y6 z) ?_ ?_); exact ⟨one_bxL _ _ _, below1 y6 _⟩; intro y7 K7)
    | (go_at_call 8; refine (hL2.out y5 sp cap K5.out (hl.out.below K5.out) hcap'.out).mono ?_; rintro e y6 ⟨M6, rfl, H⟩; have hM6 : Hid (M6.size = 35 ∧ M6.all (·.oneCell') = true) := BL.facts H.out.2.1; have K6 : Hid (Below w.heap.size w y6 ∧ BL y6 M6 (bdOf l)) := ⟨K5.out.trans (H.out.1.mono K5.out.size), H.out.2.1⟩; clear H)
    | ((with_reducible refine at_load rtBd w.heap.size C ?_ ?_ (.tmp 2) ?_ ?_ ?_ ?_); exact K0.out.bx 0 _ _ _ rfl; exact hfC.out.1; kernel_rfl; rfl; rfl)
    | (go_at_call 7; refine (hSv.out y0 C K0.out.low (hsB.out.below K0.out.low)).mono ?_; rintro e y5 ⟨rfl, H⟩; have K5 : Hid (Below w.heap.size w y5) := K0.out.low.trans (H.out.mono K0.out.low.size); clear H)
    | ((with_reducible refine gen_world (w.alloc (.cells C 35)) (Fm w [(w.heap.size, C, 35)]) ?_ ?_); exact Fm.one w _ _; intro y0 K0; have c32 := (K0.out.bx 0 _ _ _ rfl).c 32 _ hc.out.1; have c33 := (K0.out.bx 0 _ _ _ rfl).c 33 _ hc.out.2))
  go_ret
  exact ⟨rfl, N0.out⟩
theorem back_10 (w : World) (tb : Hid (Tbs w)) (C : Array Value) (s : Bd)     (hs : Hid (BL w C s)) (hR : (s.ram.length : Int) ≤ 9223372036854775807) (hO : (s.rom.length : Int) ≤ 9223372036854775807) (sp : Option Addr) (cap : Nat) (l : List UInt8) (hl : Hid (LB w sp l)) (hcap : l.length ≤ cap) (h1 : s.ram.length ≤ 2147483647) (h2 : s.rom.length ≤ 2147483647) (h3 : l.length ≤ 2147483647) (hA : chkB s = 0) (hB : ¬ (formB l = true ∧ sumOk l = true ∧ chkB (bdOf l) = 0)) :
    Calls Tryd.prog 4 #[.agg C, .slice sp l.length cap] w fun e w' => e = .returned (.bool true) ∧ Below w.heap.size w w' := by
  have hAw : Hid (∀ y, Below w.heap.size w y → Calls Tryd.prog 6 #[] y fun e w' => e = .returned (.bool true) ∧ Below y.heap.size y w') := fun y hy => awake_any y (tb.out.below hy)
  have hfit := (chk_fit hs.out.ok hA).1
  obtain ⟨lf1, lf2, lf3⟩ := load_sav s hfit
  have hpl : (savB s).length ≤ 4000000000 := by rw [sav_len s hfit.ok.r, hfit.rom]; have := hfit.ram; omega
  obtain ⟨P, hP⟩ : ∃ z, savB s = z := ⟨_, rfl⟩
  rw [hP] at lf1 lf2 lf3 hpl
  have hSv : Hid _ := sv_ok w tb s hA P hP
  have hL1 : Hid _ := lo_ok w tb P s hpl lf1 lf2 lf3 hA
  have hSm : Hid (∀ y A, Below w.heap.size w y → BL y A s → Calls Tryd.prog 9 #[.agg A, .agg C] y fun e w' => e = .returned (.bool true) ∧ Below y.heap.size y w') := fun y A hy h1' => same08_true y A C s h1' (hs.out.below hy) (by omega) (by omega)
  have hsB : Hid (BL w C s) := hs
  obtain ⟨nP, hnP⟩ : ∃ z, P.length = z := ⟨_, rfl⟩
  rw [hnP] at hSv hL1
  clear lf1 lf2 lf3 hfit hP hpl hnP
  obtain ⟨E, qE1, qE2, hL2'⟩ := lo_no w tb l (by omega) hB
  have hL2 : Hid _ := hL2'
  obtain ⟨sR, cR, sO, cO, hCe, _, _⟩ := hs.out.c
  have hfC : Hid (C.size = 35 ∧ C.all (·.oneCell') = true) := BL.facts hs.out
  obtain ⟨nR, hnR⟩ : ∃ z, s.ram.length = z := ⟨_, rfl⟩
  obtain ⟨nO, hnO⟩ : ∃ z, s.rom.length = z := ⟨_, rfl⟩
  have hc : Hid (C[32]? = some (.slice sR nR cR) ∧ C[33]? = some (.slice sO nO cO)) := by
    rw [hCe, hnR, hnO]
    exact ⟨rfl, rfl⟩
  rw [hnR] at hR
  rw [hnO] at hO
  rw [hnR] at h1
  rw [hnO] at h2
  obtain ⟨n, hn'⟩ : ∃ z, l.length = z := ⟨_, rfl⟩
  rw [hn'] at hcap h3 hL2 ⊢
  have hcap' : Hid (n ≤ cap) := hcap
  have d1 : decide ((2147483647 : Int) < (nR : Int)) = false := decide_eq_false (by omega)
  have d1' : decide (2147483647 < nR) = false := decide_eq_false (by omega)
  have d2 : decide ((2147483647 : Int) < (nO : Int)) = false := decide_eq_false (by omega)
  have d2' : decide (2147483647 < nO) = false := decide_eq_false (by omega)
  have d3 : decide ((2147483647 : Int) < (n : Int)) = false := decide_eq_false (by omega)
  have d3' : decide (2147483647 < n) = false := decide_eq_false (by omega)
  have inn : (n : Int) ≤ 2147483647 := by omega
  clear tb hs hR hO hCe hnR hnO h1 h2 h3 hn' hcap hA hB hL2'
  go_enter Tryd.func4, Tryd.ntmps4
  go_wp2_with (first
    | (go_at_call 6; refine (hAw.out y8 K8.out.2).mono ?_; rintro e z0 ⟨rfl, H⟩; have N0 : Hid (Below w.heap.size w z0) := K8.out.2.trans (H.mono K8.out.2.size); clear H)
    | ((with_reducible refine at_st rtBd y6.heap.size zBd zBd ?_ ?_ ?_ ?_ (.tmp 9) (.tmp 51) ?_ ?_ ?_ ?_ ?_); exact K7.out.1; rfl; rfl; exact zBd_one; rfl; rfl; rfl; rfl; intro y8 h8; have b8 : Below y6.heap.size y6 y8 := K7.out.2.trans (h8.out.2.1 _ (Nat.le_refl _)); have K8 : Hid (Bx y8 y6.heap.size zBd 35 ∧ Below w.heap.size w y8) := ⟨h8.out.1, K6.out.trans (b8.mono K6.out.size)⟩; have e32 := K8.out.1.c 32 (.slice none 0 0) rfl; clear h8 K7 b8)
    | ((with_reducible refine gen_world (y6.alloc (.cells #[.int .u16 0, .int .u16 0, .int .u16 0, .int .u16 0, .int .u16 0, .int .u16 0, .int .u16 0, .int .u16 0, .int .u16 0, .int .u16 0, .int .u16 0, .int .u16 0, .int .u16 0, .int .u16 0, .int .u16 0, .int .u16 0, .int .u8 0, .bool false, .int .u8 0, .int .u8 0, .int .u8 0, .bool false, .bool false, .int .u8 0, .int .u8 0, .int .u8 0, .int .i64 0, .int .i64 0, .bool false, .int .i64 0, .int .u8 0, .bool false, .slice none 0 0, .slice none 0 0, .int .u64 0] 35)) (fun z => Bx z y6.heap.size zBd 35 ∧ Below y6.heap.size y6 z) ?_ ?_); exact ⟨one_bxL _ _ _, below1 y6 _⟩; intro y7 K7)
    | (go_at_call 8; refine (hL2.out y5 sp cap K5.out (hl.out.below K5.out) hcap'.out).mono ?_; rintro e y6 ⟨rfl, H⟩; have K6 : Hid (Below w.heap.size w y6) := K5.out.trans (H.out.mono K5.out.size); clear H)
    | (go_at_call 7; refine (hSv.out y0 C K0.out.low (hsB.out.below K0.out.low)).mono ?_; rintro e y1 ⟨s8, c8, rfl, H⟩; have K1 : Hid (Fm w [(w.heap.size, C, 35)] y1 ∧ LB y1 s8 P ∧ nP ≤ c8) := ⟨K0.out.below H.out.1, H.out.2.1, H.out.2.2.1⟩; clear H)
    | (go_at_call 8; refine (hL1.out y1 s8 c8 K1.out.1.low K1.out.2.1 K1.out.2.2).mono ?_; rintro e y2 ⟨M2, rfl, H⟩; have hM2 : Hid (M2.size = 35 ∧ M2.all (·.oneCell') = true) := BL.facts H.out.2.1; have K2 : Hid (Fm w [(w.heap.size, C, 35)] y2 ∧ BL y2 M2 s) := ⟨K1.out.1.below H.out.1, H.out.2.1⟩; clear H)
    | ((with_reducible refine gen_world (y2.alloc (.cells #[.int .u16 0, .int .u16 0, .int .u16 0, .int .u16 0, .int .u16 0, .int .u16 0, .int .u16 0, .int .u16 0, .int .u16 0, .int .u16 0, .int .u16 0, .int .u16 0, .int .u16 0, .int .u16 0, .int .u16 0, .int .u16 0, .int .u8 0, .bool false, .int .u8 0, .int .u8 0, .int .u8 0, .bool false, .bool false, .int .u8 0, .int .u8 0, .int .u8 0, .int .i64 0, .int .i64 0, .bool false, .int .i64 0, .int .u8 0, .bool false, .slice none 0 0, .slice none 0 0, .int .u64 0] 35)) (fun z => Fm w [(w.heap.size, C, 35), (y2.heap.size, zBd, 35)] z ∧ Below y2.heap.size y2 z) ?_ ?_); exact ⟨K2.out.1.new _ _, below1 y2 _⟩; intro y3 K3)
    | ((with_reducible refine at_st rtBd y2.heap.size zBd M2 ?_ ?_ ?_ ?_ (.tmp 7) (.tmp 38) ?_ ?_ ?_ ?_ ?_); exact K3.out.1.bx 1 _ _ _ rfl; rfl; exact hM2.out.1; exact hM2.out.2; rfl; rfl; rfl; rfl; intro y4 h4; have K4 : Hid (Fm w [(w.heap.size, C, 35), (y2.heap.size, M2, 35)] y4 ∧ BL y4 M2 s) := ⟨K3.out.1.put 1 _ _ _ _ rfl h4.out, K2.out.2.below (K3.out.2.trans (h4.out.2.1 _ (Nat.le_refl _)))⟩; clear h4 K3)
    | ((with_reducible refine at_load rtBd y2.heap.size M2 ?_ ?_ (.tmp 7) ?_ ?_ ?_ ?_); exact K4.out.1.bx 1 _ _ _ rfl; exact hM2.out.1; kernel_rfl; rfl; rfl)
    | ((with_reducible refine at_load rtBd w.heap.size C ?_ ?_ (.tmp 2) ?_ ?_ ?_ ?_); exact K4.out.1.bx 0 _ _ _ rfl; exact hfC.out.1; kernel_rfl; rfl; rfl)
    | ((with_reducible refine at_load rtBd w.heap.size C ?_ ?_ (.tmp 2) ?_ ?_ ?_ ?_); exact K0.out.bx 0 _ _ _ rfl; exact hfC.out.1; kernel_rfl; rfl; rfl)
    | (go_at_call 9; refine (hSm.out y4 M2 K4.out.1.low K4.out.2).mono ?_; rintro e y5 ⟨rfl, H⟩; have K5 : Hid (Below w.heap.size w y5) := K4.out.1.low.trans (H.mono K4.out.1.low.size); clear H)
    | ((with_reducible refine gen_world (w.alloc (.cells C 35)) (Fm w [(w.heap.size, C, 35)]) ?_ ?_); exact Fm.one w _ _; intro y0 K0; have c32 := (K0.out.bx 0 _ _ _ rfl).c 32 _ hc.out.1; have c33 := (K0.out.bx 0 _ _ _ rfl).c 33 _ hc.out.2))
  go_ret
  exact ⟨rfl, N0.out⟩
theorem back_11 (w : World) (tb : Hid (Tbs w)) (C : Array Value) (s : Bd)     (hs : Hid (BL w C s)) (hR : (s.ram.length : Int) ≤ 9223372036854775807) (hO : (s.rom.length : Int) ≤ 9223372036854775807) (sp : Option Addr) (cap : Nat) (l : List UInt8) (hl : Hid (LB w sp l)) (hcap : l.length ≤ cap) (h1 : s.ram.length ≤ 2147483647) (h2 : s.rom.length ≤ 2147483647) (h3 : l.length ≤ 2147483647) (hA : chkB s = 0) (hB : (formB l = true ∧ sumOk l = true ∧ chkB (bdOf l) = 0)) :
    Calls Tryd.prog 4 #[.agg C, .slice sp l.length cap] w fun e w' => e = .returned (.bool true) ∧ Below w.heap.size w w' := by
  have hAw : Hid (∀ y, Below w.heap.size w y → Calls Tryd.prog 6 #[] y fun e w' => e = .returned (.bool true) ∧ Below y.heap.size y w') := fun y hy => awake_any y (tb.out.below hy)
  have hfit := (chk_fit hs.out.ok hA).1
  obtain ⟨lf1, lf2, lf3⟩ := load_sav s hfit
  have hpl : (savB s).length ≤ 4000000000 := by rw [sav_len s hfit.ok.r, hfit.rom]; have := hfit.ram; omega
  obtain ⟨P, hP⟩ : ∃ z, savB s = z := ⟨_, rfl⟩
  rw [hP] at lf1 lf2 lf3 hpl
  have hSv : Hid _ := sv_ok w tb s hA P hP
  have hL1 : Hid _ := lo_ok w tb P s hpl lf1 lf2 lf3 hA
  have hSm : Hid (∀ y A, Below w.heap.size w y → BL y A s → Calls Tryd.prog 9 #[.agg A, .agg C] y fun e w' => e = .returned (.bool true) ∧ Below y.heap.size y w') := fun y A hy h1' => same08_true y A C s h1' (hs.out.below hy) (by omega) (by omega)
  have hsB : Hid (BL w C s) := hs
  obtain ⟨nP, hnP⟩ : ∃ z, P.length = z := ⟨_, rfl⟩
  rw [hnP] at hSv hL1
  clear lf1 lf2 lf3 hfit hP hpl hnP
  have hL2 : Hid _ := lo_ok w tb l (bdOf l) (by omega) hB.1 hB.2.1 rfl hB.2.2
  have hS2 : Hid _ := sv_ok w tb (bdOf l) hB.2.2 l (sav_load l hB.1 hB.2.1)
  obtain ⟨S, hS⟩ : ∃ z : ByteArray, ⟨l.toArray⟩ = z := ⟨_, rfl⟩
  have hcv : Hid (∀ y sp cap, LB y sp l → (convert 32 9 (.slice sp l.length cap)).run Tryd.prog y = .ok (.string S) y) := fun y sp cap h => by rw [← hS]; exact conv21 h cap
  obtain ⟨sR, cR, sO, cO, hCe, _, _⟩ := hs.out.c
  have hfC : Hid (C.size = 35 ∧ C.all (·.oneCell') = true) := BL.facts hs.out
  obtain ⟨nR, hnR⟩ : ∃ z, s.ram.length = z := ⟨_, rfl⟩
  obtain ⟨nO, hnO⟩ : ∃ z, s.rom.length = z := ⟨_, rfl⟩
  have hc : Hid (C[32]? = some (.slice sR nR cR) ∧ C[33]? = some (.slice sO nO cO)) := by
    rw [hCe, hnR, hnO]
    exact ⟨rfl, rfl⟩
  rw [hnR] at hR
  rw [hnO] at hO
  rw [hnR] at h1
  rw [hnO] at h2
  obtain ⟨n, hn'⟩ : ∃ z, l.length = z := ⟨_, rfl⟩
  rw [hn'] at hcap h3 hL2 ⊢
  rw [hn'] at hS2 hcv
  have hcap' : Hid (n ≤ cap) := hcap
  have d1 : decide ((2147483647 : Int) < (nR : Int)) = false := decide_eq_false (by omega)
  have d1' : decide (2147483647 < nR) = false := decide_eq_false (by omega)
  have d2 : decide ((2147483647 : Int) < (nO : Int)) = false := decide_eq_false (by omega)
  have d2' : decide (2147483647 < nO) = false := decide_eq_false (by omega)
  have d3 : decide ((2147483647 : Int) < (n : Int)) = false := decide_eq_false (by omega)
  have d3' : decide (2147483647 < n) = false := decide_eq_false (by omega)
  have inn : (n : Int) ≤ 2147483647 := by omega
  clear tb hs hR hO hCe hnR hnO h1 h2 h3 hn' hcap hA hB hS
  go_enter Tryd.func4, Tryd.ntmps4
  go_wp2_with (first
    | (go_at_call 6; refine (hAw.out y9 K9.out).mono ?_; rintro e z0 ⟨rfl, H⟩; have N0 : Hid (Below w.heap.size w z0) := K9.out.trans (H.mono K9.out.size); clear H)
    | (go_at_call 7; refine (hS2.out y8 M6 K8.out.2.1 K8.out.2.2).mono ?_; rintro e y9 ⟨s9, c9, rfl, H⟩; have K9 : Hid (Below w.heap.size w y9) := K8.out.2.1.trans (H.out.1.mono K8.out.2.1.size); have v1 := hcv.out y9 s9 c9 H.out.2.1; have v2 := hcv.out y9 sp cap (hl.out.below K9.out); clear H)
    | ((with_reducible refine at_load rtBd y6.heap.size M6 ?_ ?_ (.tmp 9) ?_ ?_ ?_ ?_); exact K8.out.1; exact hM6.out.1; kernel_rfl; rfl; rfl)
    | ((with_reducible refine at_st rtBd y6.heap.size zBd M6 ?_ ?_ ?_ ?_ (.tmp 9) (.tmp 51) ?_ ?_ ?_ ?_ ?_); exact K7.out.1; rfl; exact hM6.out.1; exact hM6.out.2; rfl; rfl; rfl; rfl; intro y8 h8; have b8 : Below y6.heap.size y6 y8 := K7.out.2.trans (h8.out.2.1 _ (Nat.le_refl _)); have K8 : Hid (Bx y8 y6.heap.size M6 35 ∧ Below w.heap.size w y8 ∧ BL y8 M6 (bdOf l)) := ⟨h8.out.1, K6.out.1.trans (b8.mono K6.out.1.size), K6.out.2.below b8⟩; clear h8 K7 b8)
    | ((with_reducible refine gen_world (y6.alloc (.cells #[.int .u16 0, .int .u16 0, .int .u16 0, .int .u16 0, .int .u16 0, .int .u16 0, .int .u16 0, .int .u16 0, .int .u16 0, .int .u16 0, .int .u16 0, .int .u16 0, .int .u16 0, .int .u16 0, .int .u16 0, .int .u16 0, .int .u8 0, .bool false, .int .u8 0, .int .u8 0, .int .u8 0, .bool false, .bool false, .int .u8 0, .int .u8 0, .int .u8 0, .int .i64 0, .int .i64 0, .bool false, .int .i64 0, .int .u8 0, .bool false, .slice none 0 0, .slice none 0 0, .int .u64 0] 35)) (fun z => Bx z y6.heap.size zBd 35 ∧ Below y6.heap.size y6 z) ?_ ?_); exact ⟨one_bxL _ _ _, below1 y6 _⟩; intro y7 K7)
    | (go_at_call 8; refine (hL2.out y5 sp cap K5.out (hl.out.below K5.out) hcap'.out).mono ?_; rintro e y6 ⟨M6, rfl, H⟩; have hM6 : Hid (M6.size = 35 ∧ M6.all (·.oneCell') = true) := BL.facts H.out.2.1; have K6 : Hid (Below w.heap.size w y6 ∧ BL y6 M6 (bdOf l)) := ⟨K5.out.trans (H.out.1.mono K5.out.size), H.out.2.1⟩; clear H)
    | (go_at_call 7; refine (hSv.out y0 C K0.out.low (hsB.out.below K0.out.low)).mono ?_; rintro e y1 ⟨s8, c8, rfl, H⟩; have K1 : Hid (Fm w [(w.heap.size, C, 35)] y1 ∧ LB y1 s8 P ∧ nP ≤ c8) := ⟨K0.out.below H.out.1, H.out.2.1, H.out.2.2.1⟩; clear H)
    | (go_at_call 8; refine (hL1.out y1 s8 c8 K1.out.1.low K1.out.2.1 K1.out.2.2).mono ?_; rintro e y2 ⟨M2, rfl, H⟩; have hM2 : Hid (M2.size = 35 ∧ M2.all (·.oneCell') = true) := BL.facts H.out.2.1; have K2 : Hid (Fm w [(w.heap.size, C, 35)] y2 ∧ BL y2 M2 s) := ⟨K1.out.1.below H.out.1, H.out.2.1⟩; clear H)
    | ((with_reducible refine gen_world (y2.alloc (.cells #[.int .u16 0, .int .u16 0, .int .u16 0, .int .u16 0, .int .u16 0, .int .u16 0, .int .u16 0, .int .u16 0, .int .u16 0, .int .u16 0, .int .u16 0, .int .u16 0, .int .u16 0, .int .u16 0, .int .u16 0, .int .u16 0, .int .u8 0, .bool false, .int .u8 0, .int .u8 0, .int .u8 0, .bool false, .bool false, .int .u8 0, .int .u8 0, .int .u8 0, .int .i64 0, .int .i64 0, .bool false, .int .i64 0, .int .u8 0, .bool false, .slice none 0 0, .slice none 0 0, .int .u64 0] 35)) (fun z => Fm w [(w.heap.size, C, 35), (y2.heap.size, zBd, 35)] z ∧ Below y2.heap.size y2 z) ?_ ?_); exact ⟨K2.out.1.new _ _, below1 y2 _⟩; intro y3 K3)
    | ((with_reducible refine at_st rtBd y2.heap.size zBd M2 ?_ ?_ ?_ ?_ (.tmp 7) (.tmp 38) ?_ ?_ ?_ ?_ ?_); exact K3.out.1.bx 1 _ _ _ rfl; rfl; exact hM2.out.1; exact hM2.out.2; rfl; rfl; rfl; rfl; intro y4 h4; have K4 : Hid (Fm w [(w.heap.size, C, 35), (y2.heap.size, M2, 35)] y4 ∧ BL y4 M2 s) := ⟨K3.out.1.put 1 _ _ _ _ rfl h4.out, K2.out.2.below (K3.out.2.trans (h4.out.2.1 _ (Nat.le_refl _)))⟩; clear h4 K3)
    | ((with_reducible refine at_load rtBd y2.heap.size M2 ?_ ?_ (.tmp 7) ?_ ?_ ?_ ?_); exact K4.out.1.bx 1 _ _ _ rfl; exact hM2.out.1; kernel_rfl; rfl; rfl)
    | ((with_reducible refine at_load rtBd w.heap.size C ?_ ?_ (.tmp 2) ?_ ?_ ?_ ?_); exact K4.out.1.bx 0 _ _ _ rfl; exact hfC.out.1; kernel_rfl; rfl; rfl)
    | ((with_reducible refine at_load rtBd w.heap.size C ?_ ?_ (.tmp 2) ?_ ?_ ?_ ?_); exact K0.out.bx 0 _ _ _ rfl; exact hfC.out.1; kernel_rfl; rfl; rfl)
    | (go_at_call 9; refine (hSm.out y4 M2 K4.out.1.low K4.out.2).mono ?_; rintro e y5 ⟨rfl, H⟩; have K5 : Hid (Below w.heap.size w y5) := K4.out.1.low.trans (H.mono K4.out.1.low.size); clear H)
    | ((with_reducible refine gen_world (w.alloc (.cells C 35)) (Fm w [(w.heap.size, C, 35)]) ?_ ?_); exact Fm.one w _ _; intro y0 K0; have c32 := (K0.out.bx 0 _ _ _ rfl).c 32 _ hc.out.1; have c33 := (K0.out.bx 0 _ _ _ rfl).c 33 _ hc.out.2))
  go_ret
  exact ⟨rfl, N0.out⟩
theorem back_walk (w : World) (tb : Hid (Tbs w)) (C : Array Value) (s : Bd)     (hs : Hid (BL w C s)) (hR : (s.ram.length : Int) ≤ 9223372036854775807) (hO : (s.rom.length : Int) ≤ 9223372036854775807) (sp : Option Addr) (cap : Nat) (l : List UInt8) (hl : Hid (LB w sp l)) (hcap : l.length ≤ cap) (hn : (l.length : Int) ≤ 9223372036854775807) :
    Calls Tryd.prog 4 #[.agg C, .slice sp l.length cap] w fun e w' => e = .returned (.bool true) ∧ Below w.heap.size w w' := by
  by_cases h1 : s.ram.length ≤ 2147483647
  · by_cases h2 : s.rom.length ≤ 2147483647
    · by_cases h3 : l.length ≤ 2147483647
      · by_cases hA : chkB s = 0 <;> by_cases hB : (formB l = true ∧ sumOk l = true ∧ chkB (bdOf l) = 0)
        · exact back_11 w tb C s hs hR hO sp cap l hl hcap h1 h2 h3 hA hB
        · exact back_10 w tb C s hs hR hO sp cap l hl hcap h1 h2 h3 hA hB
        · exact back_01 w tb C s hs hR hO sp cap l hl hcap h1 h2 h3 hA hB
        · exact back_00 w tb C s hs hR hO sp cap l hl hcap h1 h2 h3 hA hB
      · exact back_big w C s hs hR hO sp l.length cap hn (by omega)
    · exact back_big w C s hs hR hO sp l.length cap hn (by omega)
  · exact back_big w C s hs hR hO sp l.length cap hn (by omega)
end Go.Proofs.YtehnhjdjjalifaaDoor
