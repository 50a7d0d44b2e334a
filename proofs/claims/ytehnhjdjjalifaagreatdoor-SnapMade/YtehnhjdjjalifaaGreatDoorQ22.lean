/- The law: what is saved. -/
import Derived.Test.YtehnhjdjjalifaaGreatDoorQ21
namespace Go.Proofs.YtehnhjdjjalifaaGreatDoor
open Go Go.RowKit Go.Shelf
set_option linter.unusedVariables false
set_option maxHeartbeats 4000000
set_option maxRecDepth 20000

/-- What is saved is the same bytes on both sides, or none on both. -/
theorem save_uni (w : World) (tb : Hid (Tbs w)) (s : Bd) (ok : s.Ok) (hR : (s.ram.length : Int) ≤ 9223372036854775807) (hO : (s.rom.length : Int) ≤ 9223372036854775807) : ∃ (P : List UInt8) (E : Int), P.length ≤ 70000 ∧
    (∀ y M, Below w.heap.size w y → BL y M s → Calls Tryz.prog 7 #[.agg M] y fun e w' => ∃ sp cap, e = .returned (.tuple #[.slice sp P.length cap, .int .i64 E]) ∧ Hid (Below y.heap.size y w' ∧ OwnL 5 1 cB y.heap.size w' (.slice sp P.length cap) P)) ∧
    (∀ y M, Below w.heap.size w y → BL y M s → Calls Tryz.prog 9 #[.agg M] y fun e w' => ∃ sp cap, e = .returned (.tuple #[.slice sp P.length cap, .int .i64 E]) ∧ Hid (Below y.heap.size y w' ∧ OwnL 5 1 cB y.heap.size w' (.slice sp P.length cap) P)) := by
  have key : ∃ (P : List UInt8) (E : Int), P.length ≤ 70000 ∧ ∀ (y : World) (e : Ending) (w' : World), SvE y s e w' → ∃ sp cap, e = .returned (.tuple #[.slice sp P.length cap, .int .i64 E]) ∧ Hid (Below y.heap.size y w' ∧ OwnL 5 1 cB y.heap.size w' (.slice sp P.length cap) P) := by
    by_cases h : chkB s = 0
    · have hf := (chk_fit ok h).1
      refine ⟨savB s, 0, by rw [sav_len s ok.r, hf.rom]; have := hf.ram; omega, fun y e w' k => ?_⟩
      rcases k with ⟨_, v, e1, k⟩ | ⟨k, _⟩
      · obtain ⟨sp, cap, hv, _⟩ := k.out.own.open kByte.len
        subst hv
        exact ⟨sp, cap, e1, k.out.low, k.out.own⟩
      · exact absurd h k
    · refine ⟨[], 212, by decide, fun y e w' k => ?_⟩
      rcases k with ⟨k, _⟩ | ⟨_, e1, k⟩
      · exact absurd k h
      · exact ⟨none, 0, e1, k.out, OwnL.nil _ _⟩
  obtain ⟨P, E, hP, k⟩ := key
  exact ⟨P, E, hP, fun y M hy hM => (psave_any y (tb.out.below hy) M s hM).mono (k y), fun y M hy hM => (rsave_any y M s hM hR hO).mono (k y)⟩
/-- A row that is not empty begins somewhere. -/
theorem own_some {B : Nat} {w : World} {sp : Option Addr} {n cap : Nat} {l : List UInt8} (h : OwnL 5 1 cB B w (.slice sp n cap) l) (hl : 0 < l.length) : ∃ g, sp = some ⟨g, 0, none⟩ := by
  rcases h.2 with ⟨e, h0⟩ | ⟨g, k, cur, e, _⟩
  · omega
  · injection e with e _ _
    exact ⟨g, e⟩
theorem own_lies {B : Nat} {w : World} {sp : Option Addr} {n cap : Nat} {l : List UInt8} (h : OwnL 5 1 cB B w (.slice sp n cap) l) : LB w sp l ∧ l.length = n ∧ n ≤ cap := by
  obtain ⟨s1, k1, e, hl, _, _, hc⟩ := h.open kByte.len
  injection e with e1 e2 e3
  subst e1
  subst e3
  exact ⟨hl, e2.symm, by rw [e2]; exact hc⟩
theorem saves_big (w : World) (C : Array Value) (s : Bd) (hs : Hid (BL w C s)) (hR : (s.ram.length : Int) ≤ 9223372036854775807) (hO : (s.rom.length : Int) ≤ 9223372036854775807) (h : 2147483647 < s.ram.length ∨ 2147483647 < s.rom.length) :
    Calls Tryz.prog 3 #[.agg C] w fun e w' => e = .returned (.bool true) ∧ Below w.heap.size w w' := by
  obtain ⟨sR, cR, sO, cO, hCe, _, _⟩ := hs.out.c
  have hfC : Hid (C.size = 35 ∧ C.all (·.oneCell') = true) := BL.facts hs.out
  obtain ⟨nR, hnR⟩ : ∃ z, s.ram.length = z := ⟨_, rfl⟩
  obtain ⟨nO, hnO⟩ : ∃ z, s.rom.length = z := ⟨_, rfl⟩
  have hc : Hid (C[32]? = some (.slice sR nR cR) ∧ C[33]? = some (.slice sO nO cO)) := by
    rw [hCe, hnR, hnO]
    exact ⟨rfl, rfl⟩
  rw [hnR] at hR
  rw [hnO] at hO
  rw [hnR, hnO] at h
  clear hCe hs hfC hnR hnO
  by_cases h1 : 2147483647 < nR
  · have d1 : decide ((2147483647 : Int) < (nR : Int)) = true := decide_eq_true (by omega)
    have d1' : decide (2147483647 < nR) = true := decide_eq_true (by omega)
    clear h h1
    go_enter Tryz.func3, Tryz.ntmps3
    go_wp2_with ((with_reducible refine gen_world (w.alloc (.cells C 34)) (Fm w [(w.heap.size, C, 34)]) ?_ ?_); exact Fm.one w _ _; intro y0 K0; have c32 := (K0.out.bx 0 _ _ _ rfl).c 32 _ hc.out.1; have c33 := (K0.out.bx 0 _ _ _ rfl).c 33 _ hc.out.2)
    go_ret
    exact ⟨rfl, K0.out.low⟩
  · have h2 : 2147483647 < nO := by omega
    have d1 : decide ((2147483647 : Int) < (nR : Int)) = false := decide_eq_false (by omega)
    have d1' : decide (2147483647 < nR) = false := decide_eq_false (by omega)
    have d2 : decide ((2147483647 : Int) < (nO : Int)) = true := decide_eq_true (by omega)
    have d2' : decide (2147483647 < nO) = true := decide_eq_true (by omega)
    clear h h1 h2
    go_enter Tryz.func3, Tryz.ntmps3
    go_wp2_with ((with_reducible refine gen_world (w.alloc (.cells C 34)) (Fm w [(w.heap.size, C, 34)]) ?_ ?_); exact Fm.one w _ _; intro y0 K0; have c32 := (K0.out.bx 0 _ _ _ rfl).c 32 _ hc.out.1; have c33 := (K0.out.bx 0 _ _ _ rfl).c 33 _ hc.out.2)
    go_ret
    exact ⟨rfl, K0.out.low⟩
theorem saves_go (w : World) (tb : Hid (Tbs w)) (C : Array Value) (s : Bd) (hs : Hid (BL w C s)) (hR : (s.ram.length : Int) ≤ 9223372036854775807) (hO : (s.rom.length : Int) ≤ 9223372036854775807) (h1 : s.ram.length ≤ 2147483647) (h2 : s.rom.length ≤ 2147483647) :
    Calls Tryz.prog 3 #[.agg C] w fun e w' => e = .returned (.bool true) ∧ Below w.heap.size w w' := by
  have hAw : Hid (∀ y, Below w.heap.size w y → Calls Tryz.prog 10 #[] y fun e w' => e = .returned (.bool true) ∧ Below y.heap.size y w') := fun y hy => awake_any y (tb.out.below hy)
  obtain ⟨P, E, hP7, hSv', hRs'⟩ := save_uni w tb s hs.out.ok hR hO
  have hLt : Hid (∀ y, Below w.heap.size w y → Calls Tryz.prog 6 #[.agg C] y fun e w' => ∃ C' b1 b2, e = .returned (.agg C') ∧ Hid (LM y.heap.size w' C' s b1 b2 ∧ Below y.heap.size y w')) := fun y hy => lent21_any y C s (hs.out.below hy) h1 h2
  have hBk : Hid (∀ y B C' b1 b2, Below w.heap.size w y → LM B y C' s b1 b2 → B ≤ y.heap.size → Calls Tryz.prog 8 #[.agg C', .agg C] y fun e w' => e = .returned (.bool true) ∧ Hid (Wr B b1 b2 y w')) := fun y B C' b1 b2 hy hL hB => back21_any y B C' C s b1 b2 hL (hs.out.below hy) h1 h2 hB
  obtain ⟨nP, hnP⟩ : ∃ z, P.length = z := ⟨_, rfl⟩
  rw [hnP] at hSv' hRs' hP7
  have hSv : Hid _ := hSv'
  have hRs : Hid _ := hRs'
  obtain ⟨S, hS⟩ : ∃ z : ByteArray, ⟨P.toArray⟩ = z := ⟨_, rfl⟩
  have hcv : Hid (∀ y B sp cap, OwnL 5 1 cB B y (.slice sp nP cap) P → (convert 31 9 (.slice sp nP cap)).run Tryz.prog y = .ok (.string S) y) := fun y B sp cap h => by
    have := conv21 (own_lies h).1 cap
    rw [hnP, hS] at this
    exact this
  have hsB : Hid (BL w C s) := hs
  have qE : (E != E) = false := by simp
  have nn : Hid (P.length = nP) := hnP
  have iP : (nP : Int) ≤ 70000 := by omega
  obtain ⟨sR, cR, sO, cO, hCe, _, _⟩ := hs.out.c
  have hfC : Hid (C.size = 35 ∧ C.all (·.oneCell') = true) := BL.facts hs.out
  obtain ⟨nR, hnR⟩ : ∃ z, s.ram.length = z := ⟨_, rfl⟩
  obtain ⟨nO, hnO⟩ : ∃ z, s.rom.length = z := ⟨_, rfl⟩
  have hc : Hid (C[32]? = some (.slice sR nR cR) ∧ C[33]? = some (.slice sO nO cO)) := by
    rw [hCe, hnR, hnO]
    exact ⟨rfl, rfl⟩
  rw [hnR] at hR
  rw [hnO] at hO
  rw [hnR] at h1
  rw [hnO] at h2
  have d1 : decide ((2147483647 : Int) < (nR : Int)) = false := decide_eq_false (by omega)
  have d1' : decide (2147483647 < nR) = false := decide_eq_false (by omega)
  have d2 : decide ((2147483647 : Int) < (nO : Int)) = false := decide_eq_false (by omega)
  have d2' : decide (2147483647 < nO) = false := decide_eq_false (by omega)
  clear tb hs hR hO hCe hnR hnO h1 h2 hS hSv' hRs' hnP hP7
  go_enter Tryz.func3, Tryz.ntmps3
  go_upto_region 4 with (first
    | ((with_reducible refine at_load rtBd w.heap.size C ?_ ?_ (.tmp 1) ?_ ?_ ?_ ?_); exact K0.out.bx 0 _ _ _ rfl; exact hfC.out.1; kernel_rfl; rfl; rfl)
    | (go_at_call 6; refine (hLt.out y0 K0.out.low).mono ?_; rintro e y1 ⟨C', b1, b2, rfl, H⟩; have K1 : Hid (Fm w [(w.heap.size, C, 34)] y1 ∧ LM y0.heap.size y1 C' s b1 b2 ∧ Below y0.heap.size y0 y1) := ⟨K0.out.below H.out.2, H.out.1, H.out.2⟩; have hf' : Hid (C'.size = 35 ∧ C'.all (·.oneCell') = true) := (by have := BL.facts (H.out.1.bl hsB.out); exact this); clear H)
    | ((with_reducible refine gen_world (y1.alloc (.cells #[.int .u16 0, .int .u16 0, .int .u16 0, .int .u16 0, .int .u16 0, .int .u16 0, .int .u16 0, .int .u16 0, .int .u16 0, .int .u16 0, .int .u16 0, .int .u16 0, .int .u16 0, .int .u16 0, .int .u16 0, .int .u16 0, .int .u8 0, .bool false, .int .u8 0, .int .u8 0, .int .u8 0, .bool false, .bool false, .int .u8 0, .int .u8 0, .int .u8 0, .int .i64 0, .int .i64 0, .bool false, .int .i64 0, .int .u8 0, .bool false, .slice none 0 0, .slice none 0 0, .int .u64 0] 34)) (fun z => Fm w [(w.heap.size, C, 34), (y1.heap.size, zBd, 34)] z ∧ Below y1.heap.size y1 z) ?_ ?_); exact ⟨K1.out.1.new _ _, below1 y1 _⟩; intro y2 K2)
    | ((with_reducible refine at_st rtBd y1.heap.size zBd C' ?_ ?_ ?_ ?_ (.tmp 3) (.tmp 24) ?_ ?_ ?_ ?_ ?_); exact K2.out.1.bx 1 _ _ _ rfl; rfl; exact hf'.out.1; exact hf'.out.2; rfl; rfl; rfl; rfl; intro y3 h3; have K3 : Hid (Ry w [(w.heap.size, C), (y1.heap.size, C')] [] y3 ∧ LM y0.heap.size y3 C' s b1 b2 ∧ y0.heap.size ≤ y3.heap.size ∧ w.heap.size ≤ y0.heap.size) := (by have b23 := K2.out.2.trans (h3.out.2.1 _ (Nat.le_refl _)); exact ⟨((Ry.nil w).box (b := w.heap.size) (cs := C) (K0.out.low) (K0.out.bx 0 _ _ _ rfl) |>.below (K1.out.2.2)).box (b := y1.heap.size) (cs := C') b23 h3.out.1, K1.out.2.1.below b23, Nat.le_trans K1.out.2.2.size b23.size, K0.out.low.size⟩); clear h3)
    | ((with_reducible refine gen_world (w.alloc (.cells C 34)) (Fm w [(w.heap.size, C, 34)]) ?_ ?_); exact Fm.one w _ _; intro y0 K0; have c32 := (K0.out.bx 0 _ _ _ rfl).c 32 _ hc.out.1; have c33 := (K0.out.bx 0 _ _ _ rfl).c 33 _ hc.out.2))
  generalize y1.heap.size = c3 at K3 ⊢
  generalize y0.heap.size = B0 at K3
  clear K2 K1 K0 c32 c33 hLt
  go_upto_region 5 with (first
    | ((with_reducible refine at_load rtBd c3 C' ?_ ?_ (.tmp 3) ?_ ?_ ?_ ?_); exact K3.out.1.bx 1 _ _ rfl; exact hf'.out.1; kernel_rfl; rfl; rfl)
    | (go_at_call 7; refine (hSv.out y3 C' K3.out.1.low (K3.out.2.1.bl hsB.out)).mono ?_; rintro e y4 ⟨sP, kP, rfl, H⟩; have K4 : Hid (Ry w [(w.heap.size, C), (c3, C')] [(.slice sP nP kP, P)] y4 ∧ LM B0 y4 C' s b1 b2 ∧ B0 ≤ y4.heap.size ∧ w.heap.size ≤ B0 ∧ ∀ g, (Value.slice sP nP kP).ownBlock = some g → g ≠ b1 ∧ g ≠ b2) := ⟨K3.out.1.row H.out.1 H.out.2, K3.out.2.1.below H.out.1, Nat.le_trans K3.out.2.2.1 H.out.1.size, K3.out.2.2.2, fun g hg => (by have h1 := (H.out.2.lt g hg).1; have h2 := heap_lt K3.out.2.1.r; have h3 := heap_lt K3.out.2.1.o; omega)⟩; clear H))
  go_upto_region 7 with (first
    | ((with_reducible refine at_load rtBd c3 C' ?_ ?_ (.tmp 3) ?_ ?_ ?_ ?_); exact K4.out.1.bx 1 _ _ rfl; exact hf'.out.1; kernel_rfl; rfl; rfl)
    | ((with_reducible refine at_load rtBd w.heap.size C ?_ ?_ (.tmp 1) ?_ ?_ ?_ ?_); exact K4.out.1.bx 0 _ _ rfl; exact hfC.out.1; kernel_rfl; rfl; rfl)
    | (go_at_call 8; refine (hBk.out y4 B0 C' b1 b2 K4.out.1.low K4.out.2.1 K4.out.2.2.1).mono ?_; rintro e y5 ⟨rfl, H⟩; have K5 : Hid (Ry w [(w.heap.size, C), (c3, C')] [(.slice sP nP kP, P)] y5) := K4.out.1.wr H.out K4.out.2.2.2.1 ⟨_, K4.out.2.1.r⟩ ⟨_, K4.out.2.1.o⟩ (fun i v l g e hg => (by have hi := (List.getElem?_eq_some_iff.1 e).1; have hi0 : i = 0 := (by simp at hi; omega); subst hi0; cases e; exact K4.out.2.2.2.2 g hg)); clear H))
  clear K4 K3 hBk
  go_upto_region 8 with (first
    | ((with_reducible refine at_load rtBd w.heap.size C ?_ ?_ (.tmp 1) ?_ ?_ ?_ ?_); exact K5.out.bx 0 _ _ rfl; exact hfC.out.1; kernel_rfl; rfl; rfl)
    | (go_at_call 7; refine (hSv.out y5 C K5.out.low (hsB.out.below K5.out.low)).mono ?_; rintro e y6 ⟨sQ, kQ, rfl, H⟩; have K6 : Hid (Ry w [(w.heap.size, C), (c3, C')] [(.slice sP nP kP, P), (.slice sQ nP kQ, P)] y6) := K5.out.row H.out.1 H.out.2; clear H))
  go_upto_region 9 with (first
    | ((with_reducible refine at_load rtBd w.heap.size C ?_ ?_ (.tmp 1) ?_ ?_ ?_ ?_); exact K6.out.bx 0 _ _ rfl; exact hfC.out.1; kernel_rfl; rfl; rfl)
    | (go_at_call 9; refine (hRs.out y6 C K6.out.low (hsB.out.below K6.out.low)).mono ?_; rintro e y7 ⟨sU, kU, rfl, H⟩; have K7 : Hid (Ry w [(w.heap.size, C), (c3, C')] [(.slice sP nP kP, P), (.slice sQ nP kQ, P), (.slice sU nP kU, P)] y7) := K6.out.row H.out.1 H.out.2; clear H))
  clear K5 K6 hSv hRs
  have v1 := hcv.out y7 _ _ _ (K7.out.own 0 _ _ rfl)
  have v2 := hcv.out y7 _ _ _ (K7.out.own 1 _ _ rfl)
  have v3 := hcv.out y7 _ _ _ (K7.out.own 2 _ _ rfl)
  go_wp2
  clear v1 v2 v3
  go_loopw [10] (fun t wz => ∃ (i : Nat) (l : List UInt8) (u : World), u = wz ∧ i ≤ nP ∧ t = .int .i64 (i : Int) ∧ Hid (Ry w [(w.heap.size, C), (c3, C')] [(.slice sP nP kP, l), (.slice sQ nP kQ, P), (.slice sU nP kU, P)] u ∧ l.length = nP)) (fun t _ => (nP - intOf t).toNat)
  case atStart => exact ⟨0, P, y7, rfl, Nat.zero_le _, rfl, K7, nn.out⟩
  case round =>
    obtain ⟨i, l, u, rfl, hi, rfl, K⟩ := hrel
    clear K7
    by_cases hlt : i < nP
    · have hki : (i : Int) < (nP : Int) := by omega
      have hlt' : Hid (i < nP) := hlt
      obtain ⟨gP, rfl⟩ := own_some (K.out.1.own 0 _ _ rfl) (by have := K.out.2; omega)
      have ix := fun v => idxB .i64 gP 0 nP kP i v hlt
      simp only [Nat.zero_add] at ix
      obtain ⟨H, ⟨x, k0⟩, z0⟩ := K.out.1.set 0 gP nP kP l rfl i (by have := K.out.2; omega) 7
      have H' : Hid (Ry w [(w.heap.size, C), (c3, C')] [(.slice (some ⟨gP, 0, none⟩) nP kP, l.set i 7), (.slice sQ nP kQ, P), (.slice sU nP kU, P)] (u.setCell ⟨gP, i, none⟩ (.int .u8 7)) ∧ (l.set i 7).length = nP) := ⟨H, by rw [List.length_set]; exact K.out.2⟩
      clear hi hlt H K
      go_wp2
      go_roundw
      case rel => exact ⟨i + 1, _, _, rfl, hlt'.out, by simp, H'⟩
      case measure => have := hlt'.out; simp [intOf]; omega
    · have hie : i = nP := by omega
      subst i
      clear hi hlt
      have K8 : Hid (Ry w [(w.heap.size, C), (c3, C')] [(.slice sP nP kP, l), (.slice sQ nP kQ, P), (.slice sU nP kU, P)] u ∧ l.length = nP + 0) := K
      clear K
      go_wp2
      go_loopw [11, 12] (fun vc t wz => ∃ (k : Nat) (l : List UInt8) (u : World), u = wz ∧ k ≤ 40 ∧ t = .int .i64 (k : Int) ∧ Hid (Ry w [(w.heap.size, C), (c3, C')] [(vc, l), (.slice sQ nP kQ, P), (.slice sU nP kU, P)] u ∧ l.length = nP + k)) (fun _ t _ => (40 - intOf t).toNat)
      case atStart => exact ⟨0, l, u, rfl, Nat.zero_le _, rfl, K8⟩
      case round =>
        obtain ⟨k, l9, u9, rfl, hk, rfl, K⟩ := hrel
        clear K8
        by_cases hlt : k < 40
        · have hki : (k : Int) < 40 := by omega
          have hlt' : Hid (k < 40) := hlt
          have hl9 : Hid (l9.length ≤ 100000000000) := by show _ ≤ _; rw [K.out.2]; omega
          have e8 : Hid ((cB 8).toArray = #[.int .u8 8]) := by show _ = _; rfl
          clear hk hlt
          go_wp2_with (at_builtin; refine at_appL kByte rfl (.tmp 80) (.tmp 81) rfl w.heap.size _ l9 rfl ((K.out.1.own 0 _ _ rfl).alloc _) u9.heap.size 8 rfl ?_ ?_ ?_ ?_; (rw [e8.out]; exact one_bxL u9 _ _); exact hl9.out; (have := K.out.1.low.size; simp [World.size_alloc]; omega); intro v2 z2 A; have N2 : Hid (Ry w [(w.heap.size, C), (c3, C')] [(v2, l9 ++ [8]), (.slice sQ nP kQ, P), (.slice sU nP kU, P)] z2 ∧ (l9 ++ [8]).length = nP + (k + 1)) := ⟨K.out.1.add 0 _ _ rfl 8 v2 _ A.out, by rw [List.length_append, K.out.2]; rfl⟩; clear A)
          go_roundw
          case rel => exact ⟨k + 1, _, _, rfl, hlt'.out, by simp, N2⟩
          case measure => have := hlt'.out; simp [intOf]; omega
        · have hke : k = 40 := by omega
          subst k
          clear hk hlt
          obtain ⟨sC, kC, hvc, _⟩ := (K.out.1.own 0 _ _ rfl).open kByte.len
          rw [K.out.2] at hvc
          subst hvc
          have v2 := hcv.out u9 _ _ _ (K.out.1.own 1 _ _ rfl)
          have v3 := hcv.out u9 _ _ _ (K.out.1.own 2 _ _ rfl)
          go_wp2_with (go_at_call 10; refine (hAw.out u9 K.out.1.low).mono ?_; rintro e z9 ⟨rfl, H⟩; have N9 : Hid (Below w.heap.size w z9) := K.out.1.low.trans (H.mono K.out.1.low.size); clear H)
          go_ret
          exact ⟨rfl, N9.out⟩
theorem saves_walk (w : World) (tb : Hid (Tbs w)) (C : Array Value) (s : Bd) (hs : Hid (BL w C s)) (hR : (s.ram.length : Int) ≤ 9223372036854775807) (hO : (s.rom.length : Int) ≤ 9223372036854775807) :
    Calls Tryz.prog 3 #[.agg C] w fun e w' => e = .returned (.bool true) ∧ Below w.heap.size w w' := by
  by_cases h1 : s.ram.length ≤ 2147483647
  · by_cases h2 : s.rom.length ≤ 2147483647
    · exact saves_go w tb C s hs hR hO h1 h2
    · exact saves_big w C s hs hR hO (by omega)
  · exact saves_big w C s hs hR hO (by omega)
end Go.Proofs.YtehnhjdjjalifaaGreatDoor
