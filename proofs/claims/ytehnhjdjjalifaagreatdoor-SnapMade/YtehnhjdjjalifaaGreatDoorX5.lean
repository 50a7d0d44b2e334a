/- The document's own: may a machine be so? -/
import Derived.Test.YtehnhjdjjalifaaGreatDoorX3
namespace Go.Proofs.YtehnhjdjjalifaaGreatDoor
open Go Go.RowKit
set_option linter.unusedVariables false
set_option maxHeartbeats 4000000
set_option maxRecDepth 20000

/-- What the document says of a processor, of a raster, of a machine. -/
def chkC (s : Bd) : Int := if 15 < s.p.toNat then 40 else if 15 < s.x.toNat then 40 else if s.ph.toNat < 1 then 40 else if 8 < s.ph.toNat then 40 else if s.ph.toNat = 3 then (if s.op.toNat / 16 = 12 then 0 else 40) else if s.b.toNat ≠ 0 then 40 else if s.ph.toNat = 5 then (if s.op.toNat = 0 then 0 else 40) else if s.ph.toNat = 4 then (if s.op.toNat = 0 then 0 else 40) else 0
def mostR (s : Bd) : Int := if (80 ≤ s.ln ∧ s.ln ≤ 207) ∧ 2 < s.cy then s.cy - 2 else 0
def chkR (s : Bd) : Int := if s.ln < 0 then 50 else if 261 < s.ln then 50 else if s.cy < 0 then 50 else if 13 < s.cy then 50 else if s.gt < 0 then 50 else if 8 < s.gt then 50 else if mostR s < s.gt then 50 else 0
def chkB (s : Bd) : Int := if ¬ (2048 ≤ s.ram.length ∧ s.ram.length ≤ 32768 ∧ s.ram.length % 2048 = 0) then 30 else if s.rom.length ≠ 512 then 31 else if chkC s ≠ 0 then chkC s else if chkR s ≠ 0 then chkR s else if 15 < s.pd.toNat then 1 else 0
theorem long_any (b : Nat) (h : b < 256) (w : World) : Calls Tryz.prog 112 #[.int .u8 (b : Int)] w fun e w' => e = .returned (.bool (decide (b / 16 = 12))) ∧ w' = w := by
  have q1 : (b : Int).tdiv 16 = ((b / 16 : Nat) : Int) := by rw [Int.tdiv_eq_ediv_of_nonneg (by omega)]; rfl
  obtain ⟨k, hk⟩ : ∃ k, b / 16 = k := ⟨_, rfl⟩
  rw [hk] at q1 ⊢
  have hki : (k : Int) < 16 := by omega
  have hbi : (b : Int) < 256 := by omega
  have hd : decide (k = 12) = ((k : Int) == 12) := by
    by_cases e : k = 12
    · subst e; rfl
    · rw [decide_eq_false e]; symm; rw [beq_eq_false_iff_ne]; omega
  rw [hd]
  clear hk hd h
  go_enter Tryz.func112, Tryz.ntmps112
  go_wp2
  go_ret
  exact ⟨rfl, rfl⟩
theorem shown_any (n : Int) (w : World) : Calls Tryz.prog 113 #[.int .i64 n] w fun e w' => e = .returned (.bool (decide (80 ≤ n ∧ n ≤ 207))) ∧ w' = w := by
  by_cases h1 : 80 ≤ n
  · by_cases h2 : n ≤ 207
    · rw [decide_eq_true ⟨h1, h2⟩]
      have d1 : decide (80 ≤ n) = true := decide_eq_true h1
      have d2 : decide (n ≤ 207) = true := decide_eq_true h2
      clear h1 h2
      go_enter Tryz.func113, Tryz.ntmps113
      go_wp2
      go_ret
      exact ⟨rfl, rfl⟩
    · rw [decide_eq_false (fun e => h2 e.2)]
      have d1 : decide (80 ≤ n) = true := decide_eq_true h1
      have d2 : decide (n ≤ 207) = false := decide_eq_false h2
      clear h1 h2
      go_enter Tryz.func113, Tryz.ntmps113
      go_wp2
      go_ret
      exact ⟨rfl, rfl⟩
  · rw [decide_eq_false (fun e => h1 e.1)]
    have d1 : decide (80 ≤ n) = false := decide_eq_false h1
    clear h1
    go_enter Tryz.func113, Tryz.ntmps113
    go_wp2
    go_ret
    exact ⟨rfl, rfl⟩
theorem size08_any (n : Nat) (h : (n : Int) ≤ 9223372036854775807) (w : World) : Calls Tryz.prog 83 #[.int .i64 (n : Int)] w fun e w' => e = .returned (.bool (decide (2048 ≤ n ∧ n ≤ 32768 ∧ n % 2048 = 0))) ∧ w' = w := by
  have q1 : (n : Int).tmod 2048 = ((n % 2048 : Nat) : Int) := by rw [Int.tmod_eq_emod_of_nonneg (by omega)]; rfl
  obtain ⟨k, hk⟩ : ∃ k, n % 2048 = k := ⟨_, rfl⟩
  rw [hk] at q1 ⊢
  by_cases h1 : 2048 ≤ n
  · have h1i : decide ((2048 : Int) ≤ (n : Int)) = true := decide_eq_true (by omega)
    by_cases h2 : n ≤ 32768
    · have h2i : decide ((n : Int) ≤ 32768) = true := decide_eq_true (by omega)
      have hd : decide (2048 ≤ n ∧ n ≤ 32768 ∧ k = 0) = ((k : Int) == 0) := by
        by_cases e : k = 0
        · subst e; simp [h1, h2]
        · rw [decide_eq_false (fun x => e x.2.2)]; symm; rw [beq_eq_false_iff_ne]; omega
      rw [hd]
      have hki : (k : Int) < 2048 := by omega
      clear hk hd h1 h2
      go_enter Tryz.func83, Tryz.ntmps83
      go_wp2
      go_ret
      exact ⟨rfl, rfl⟩
    · have h2i : decide ((n : Int) ≤ 32768) = false := decide_eq_false (by omega)
      rw [decide_eq_false (fun e => h2 e.2.1)]
      clear hk h1 h2
      go_enter Tryz.func83, Tryz.ntmps83
      go_wp2
      go_ret
      exact ⟨rfl, rfl⟩
  · have h1i : decide ((2048 : Int) ≤ (n : Int)) = false := decide_eq_false (by omega)
    rw [decide_eq_false (fun e => h1 e.1)]
    clear hk h1
    go_enter Tryz.func83, Tryz.ntmps83
    go_wp2
    go_ret
    exact ⟨rfl, rfl⟩
theorem chk4_any (s : Bd) (w : World) : Calls Tryz.prog 84 #[.agg (cCs s)] w fun e w' => e = .returned (.int .i64 (chkC s)) ∧ Below w.heap.size w w' := by
  have K0 : Hid (Below w.heap.size w (w.alloc (.cells (cCs s) 26))) := below1 w _
  have B0 : Bx (w.alloc (.cells (cCs s) 26)) w.heap.size (cCs s) 26 := one_bxL _ _ _
  have c18 := B0.c 18 (.int .u8 (s.p.toNat : Int)) rfl
  have c19 := B0.c 19 (.int .u8 (s.x.toNat : Int)) rfl
  have c23 := B0.c 23 (.int .u8 (s.op.toNat : Int)) rfl
  have c24 := B0.c 24 (.int .u8 (s.b.toNat : Int)) rfl
  have c25 := B0.c 25 (.int .u8 (s.ph.toNat : Int)) rfl
  have o8 := UInt8.toNat_lt s.op
  have hLg : Hid (∀ v, Calls Tryz.prog 112 #[.int .u8 (s.op.toNat : Int)] v fun e w' => e = .returned (.bool (decide (s.op.toNat / 16 = 12))) ∧ w' = v) := fun v => long_any _ o8 v
  unfold chkC
  generalize cCs s = CC at K0 B0 c18 c19 c23 c24 c25 ⊢
  generalize s.p.toNat = P at c18 ⊢
  generalize s.x.toNat = X at c19 ⊢
  generalize s.op.toNat = O at c23 hLg o8 ⊢
  generalize s.b.toNat = Bb at c24 ⊢
  generalize s.ph.toNat = H at c25 ⊢
  clear B0
  by_cases hP15 : 15 < P
  · rw [if_pos hP15]
    have iP15 : decide ((15 : Int) < (P : Int)) = true := decide_eq_true (by omega)
    clear hP15
    go_enter Tryz.func84, Tryz.ntmps84
    go_wp2
    go_ret
    exact ⟨rfl, K0.out⟩
  · rw [if_neg hP15]
    have iP15 : decide ((15 : Int) < (P : Int)) = false := decide_eq_false (by omega)
    clear hP15
    by_cases hX15 : 15 < X
    · rw [if_pos hX15]
      have iX15 : decide ((15 : Int) < (X : Int)) = true := decide_eq_true (by omega)
      clear hX15
      go_enter Tryz.func84, Tryz.ntmps84
      go_wp2
      go_ret
      exact ⟨rfl, K0.out⟩
    · rw [if_neg hX15]
      have iX15 : decide ((15 : Int) < (X : Int)) = false := decide_eq_false (by omega)
      clear hX15
      by_cases hH1 : H < 1
      · rw [if_pos hH1]
        have iH1 : decide ((H : Int) < 1) = true := decide_eq_true (by omega)
        clear hH1
        go_enter Tryz.func84, Tryz.ntmps84
        go_wp2
        go_ret
        exact ⟨rfl, K0.out⟩
      · rw [if_neg hH1]
        have iH1 : decide ((H : Int) < 1) = false := decide_eq_false (by omega)
        clear hH1
        by_cases hH8 : 8 < H
        · rw [if_pos hH8]
          have iH8 : decide ((8 : Int) < (H : Int)) = true := decide_eq_true (by omega)
          clear hH8
          go_enter Tryz.func84, Tryz.ntmps84
          go_wp2
          go_ret
          exact ⟨rfl, K0.out⟩
        · rw [if_neg hH8]
          have iH8 : decide ((8 : Int) < (H : Int)) = false := decide_eq_false (by omega)
          clear hH8
          by_cases hHe3 : H = 3
          · rw [if_pos hHe3]
            have jH3 : ((H : Int) == 3) = true := by rw [beq_iff_eq]; omega
            have kH3 : ((H : Int) != 3) = false := by rw [bne_eq_false_iff_eq]; omega
            have j5 : ((H : Int) == 5) = false := by rw [beq_eq_false_iff_ne]; omega
            have j4 : ((H : Int) == 4) = false := by rw [beq_eq_false_iff_ne]; omega
            by_cases hl : O / 16 = 12
            · rw [if_pos hl]
              rw [decide_eq_true hl] at hLg
              go_enter Tryz.func84, Tryz.ntmps84
              go_wp2_with (go_at_call 112; refine (hLg.out _).mono ?_; rintro e w9 ⟨rfl, rfl⟩)
              go_ret
              exact ⟨rfl, K0.out⟩
            · rw [if_neg hl]
              rw [decide_eq_false hl] at hLg
              go_enter Tryz.func84, Tryz.ntmps84
              go_wp2_with (go_at_call 112; refine (hLg.out _).mono ?_; rintro e w9 ⟨rfl, rfl⟩)
              go_ret
              exact ⟨rfl, K0.out⟩
          · rw [if_neg hHe3]
            have jH3 : ((H : Int) == 3) = false := by rw [beq_eq_false_iff_ne]; omega
            have kH3 : ((H : Int) != 3) = true := by rw [bne_iff_ne]; omega
            by_cases hBbe0 : Bb = 0
            · rw [if_neg (fun x => x hBbe0)]
              have jBb0 : ((Bb : Int) == 0) = true := by rw [beq_iff_eq]; omega
              have kBb0 : ((Bb : Int) != 0) = false := by rw [bne_eq_false_iff_eq]; omega
              by_cases hHe5 : H = 5
              · rw [if_pos hHe5]
                have jH5 : ((H : Int) == 5) = true := by rw [beq_iff_eq]; omega
                have kH5 : ((H : Int) != 5) = false := by rw [bne_eq_false_iff_eq]; omega
                have j4 : ((H : Int) == 4) = false := by rw [beq_eq_false_iff_ne]; omega
                by_cases hOe0 : O = 0
                · rw [if_pos hOe0]
                  have jO0 : ((O : Int) == 0) = true := by rw [beq_iff_eq]; omega
                  have kO0 : ((O : Int) != 0) = false := by rw [bne_eq_false_iff_eq]; omega
                  go_enter Tryz.func84, Tryz.ntmps84
                  go_wp2
                  go_ret
                  exact ⟨rfl, K0.out⟩
                · rw [if_neg hOe0]
                  have jO0 : ((O : Int) == 0) = false := by rw [beq_eq_false_iff_ne]; omega
                  have kO0 : ((O : Int) != 0) = true := by rw [bne_iff_ne]; omega
                  go_enter Tryz.func84, Tryz.ntmps84
                  go_wp2
                  go_ret
                  exact ⟨rfl, K0.out⟩
              · rw [if_neg hHe5]
                have jH5 : ((H : Int) == 5) = false := by rw [beq_eq_false_iff_ne]; omega
                have kH5 : ((H : Int) != 5) = true := by rw [bne_iff_ne]; omega
                by_cases hHe4 : H = 4
                · rw [if_pos hHe4]
                  have jH4 : ((H : Int) == 4) = true := by rw [beq_iff_eq]; omega
                  have kH4 : ((H : Int) != 4) = false := by rw [bne_eq_false_iff_eq]; omega
                  by_cases hOe0 : O = 0
                  · rw [if_pos hOe0]
                    have jO0 : ((O : Int) == 0) = true := by rw [beq_iff_eq]; omega
                    have kO0 : ((O : Int) != 0) = false := by rw [bne_eq_false_iff_eq]; omega
                    go_enter Tryz.func84, Tryz.ntmps84
                    go_wp2
                    go_ret
                    exact ⟨rfl, K0.out⟩
                  · rw [if_neg hOe0]
                    have jO0 : ((O : Int) == 0) = false := by rw [beq_eq_false_iff_ne]; omega
                    have kO0 : ((O : Int) != 0) = true := by rw [bne_iff_ne]; omega
                    go_enter Tryz.func84, Tryz.ntmps84
                    go_wp2
                    go_ret
                    exact ⟨rfl, K0.out⟩
                · rw [if_neg hHe4]
                  have jH4 : ((H : Int) == 4) = false := by rw [beq_eq_false_iff_ne]; omega
                  have kH4 : ((H : Int) != 4) = true := by rw [bne_iff_ne]; omega
                  go_enter Tryz.func84, Tryz.ntmps84
                  go_wp2
                  go_ret
                  exact ⟨rfl, K0.out⟩
            · rw [if_pos hBbe0]
              have jBb0 : ((Bb : Int) == 0) = false := by rw [beq_eq_false_iff_ne]; omega
              have kBb0 : ((Bb : Int) != 0) = true := by rw [bne_iff_ne]; omega
              go_enter Tryz.func84, Tryz.ntmps84
              go_wp2
              go_ret
              exact ⟨rfl, K0.out⟩
theorem chk5_any (s : Bd) (w : World) : Calls Tryz.prog 85 #[.agg (rCs s)] w fun e w' => e = .returned (.int .i64 (chkR s)) ∧ Below w.heap.size w w' := by
  have K0 : Hid (Below w.heap.size w (w.alloc (.cells (rCs s) 28))) := below1 w _
  have B0 : Bx (w.alloc (.cells (rCs s) 28)) w.heap.size (rCs s) 28 := one_bxL _ _ _
  have c0 := B0.c 0 (.int .i64 s.ln) rfl
  have c1 := B0.c 1 (.int .i64 s.cy) rfl
  have c3 := B0.c 3 (.int .i64 s.gt) rfl
  have hSh : Hid (∀ v, Calls Tryz.prog 113 #[.int .i64 s.ln] v fun e w' => e = .returned (.bool (decide (80 ≤ s.ln ∧ s.ln ≤ 207))) ∧ w' = v) := fun v => shown_any _ v
  unfold chkR mostR
  generalize rCs s = CC at K0 B0 c0 c1 c3 ⊢
  generalize s.ln = A at c0 hSh ⊢
  generalize s.cy = C at c1 ⊢
  generalize s.gt = G at c3 ⊢
  clear B0
  by_cases hA0 : A < 0
  · rw [if_pos hA0]
    have dA0 : decide (A < 0) = true := decide_eq_true hA0
    clear hA0
    go_enter Tryz.func85, Tryz.ntmps85
    go_wp2
    go_ret
    exact ⟨rfl, K0.out⟩
  · rw [if_neg hA0]
    have dA0 : decide (A < 0) = false := decide_eq_false hA0
    by_cases hA261 : 261 < A
    · rw [if_pos hA261]
      have dA261 : decide (261 < A) = true := decide_eq_true hA261
      clear hA261
      go_enter Tryz.func85, Tryz.ntmps85
      go_wp2
      go_ret
      exact ⟨rfl, K0.out⟩
    · rw [if_neg hA261]
      have dA261 : decide (261 < A) = false := decide_eq_false hA261
      by_cases hC0 : C < 0
      · rw [if_pos hC0]
        have dC0 : decide (C < 0) = true := decide_eq_true hC0
        clear hC0
        go_enter Tryz.func85, Tryz.ntmps85
        go_wp2
        go_ret
        exact ⟨rfl, K0.out⟩
      · rw [if_neg hC0]
        have dC0 : decide (C < 0) = false := decide_eq_false hC0
        by_cases hC13 : 13 < C
        · rw [if_pos hC13]
          have dC13 : decide (13 < C) = true := decide_eq_true hC13
          clear hC13
          go_enter Tryz.func85, Tryz.ntmps85
          go_wp2
          go_ret
          exact ⟨rfl, K0.out⟩
        · rw [if_neg hC13]
          have dC13 : decide (13 < C) = false := decide_eq_false hC13
          by_cases hG0 : G < 0
          · rw [if_pos hG0]
            have dG0 : decide (G < 0) = true := decide_eq_true hG0
            clear hG0
            go_enter Tryz.func85, Tryz.ntmps85
            go_wp2
            go_ret
            exact ⟨rfl, K0.out⟩
          · rw [if_neg hG0]
            have dG0 : decide (G < 0) = false := decide_eq_false hG0
            by_cases hG8 : 8 < G
            · rw [if_pos hG8]
              have dG8 : decide (8 < G) = true := decide_eq_true hG8
              clear hG8
              go_enter Tryz.func85, Tryz.ntmps85
              go_wp2
              go_ret
              exact ⟨rfl, K0.out⟩
            · rw [if_neg hG8]
              have dG8 : decide (8 < G) = false := decide_eq_false hG8
              by_cases hs : 80 ≤ A ∧ A ≤ 207
              · rw [decide_eq_true hs] at hSh
                by_cases hc : 2 < C
                · rw [if_pos (show (80 ≤ A ∧ A ≤ 207) ∧ 2 < C from ⟨hs, hc⟩)]
                  have wc : IntKind.i64.wrap (C - 2) = C - 2 := by rw [IntKind.wrap_i64]; omega
                  have dc : decide (2 < C) = true := decide_eq_true hc
                  clear hs hc
                  by_cases hm : C - 2 < G
                  · rw [if_pos hm]
                    have dm : decide (C - 2 < G) = true := decide_eq_true hm
                    clear hm
                    go_enter Tryz.func85, Tryz.ntmps85
                    go_wp2_with (go_at_call 113; refine (hSh.out _).mono ?_; rintro e w9 ⟨rfl, rfl⟩)
                    go_ret
                    exact ⟨rfl, K0.out⟩
                  · rw [if_neg hm]
                    have dm : decide (C - 2 < G) = false := decide_eq_false hm
                    clear hm
                    go_enter Tryz.func85, Tryz.ntmps85
                    go_wp2_with (go_at_call 113; refine (hSh.out _).mono ?_; rintro e w9 ⟨rfl, rfl⟩)
                    go_ret
                    exact ⟨rfl, K0.out⟩
                · rw [if_neg (show ¬ ((80 ≤ A ∧ A ≤ 207) ∧ 2 < C) from fun x => hc x.2)]
                  have dc : decide (2 < C) = false := decide_eq_false hc
                  clear hs hc
                  by_cases hm : 0 < G
                  · rw [if_pos hm]
                    have dm : decide (0 < G) = true := decide_eq_true hm
                    clear hm
                    go_enter Tryz.func85, Tryz.ntmps85
                    go_wp2_with (go_at_call 113; refine (hSh.out _).mono ?_; rintro e w9 ⟨rfl, rfl⟩)
                    go_ret
                    exact ⟨rfl, K0.out⟩
                  · rw [if_neg hm]
                    have dm : decide (0 < G) = false := decide_eq_false hm
                    clear hm
                    go_enter Tryz.func85, Tryz.ntmps85
                    go_wp2_with (go_at_call 113; refine (hSh.out _).mono ?_; rintro e w9 ⟨rfl, rfl⟩)
                    go_ret
                    exact ⟨rfl, K0.out⟩
              · rw [decide_eq_false hs] at hSh
                rw [if_neg (show ¬ ((80 ≤ A ∧ A ≤ 207) ∧ 2 < C) from fun x => hs x.1)]
                clear hs
                by_cases hm : 0 < G
                · rw [if_pos hm]
                  have dm : decide (0 < G) = true := decide_eq_true hm
                  clear hm
                  go_enter Tryz.func85, Tryz.ntmps85
                  go_wp2_with (go_at_call 113; refine (hSh.out _).mono ?_; rintro e w9 ⟨rfl, rfl⟩)
                  go_ret
                  exact ⟨rfl, K0.out⟩
                · rw [if_neg hm]
                  have dm : decide (0 < G) = false := decide_eq_false hm
                  clear hm
                  go_enter Tryz.func85, Tryz.ntmps85
                  go_wp2_with (go_at_call 113; refine (hSh.out _).mono ?_; rintro e w9 ⟨rfl, rfl⟩)
                  go_ret
                  exact ⟨rfl, K0.out⟩
theorem chk8_any (w : World) (C : Array Value) (s : Bd) (hs : Hid (BL w C s)) (hR : (s.ram.length : Int) ≤ 9223372036854775807) (hO : (s.rom.length : Int) ≤ 9223372036854775807) : Calls Tryz.prog 19 #[.agg C] w fun e w' => e = .returned (.int .i64 (chkB s)) ∧ Below w.heap.size w w' := by
  obtain ⟨sR, cR, sO, cO, hCe, lR, lO⟩ := hs.out.c
  have sC : Hid (C.size = 35) := hs.out.size
  have K0 : Hid (Fm w [(w.heap.size, C, 34)] (w.alloc (.cells C 34))) := Fm.one w _ _
  have hm : Hid (∀ y, Fm w [(w.heap.size, C, 34)] y → y.rangeAt w.heap.size 0 (cCs s).toList ∧ y.rangeAt w.heap.size 26 (rCs s).toList ∧ y.cell? ⟨w.heap.size, 32, none⟩ = some (.slice sR s.ram.length cR) ∧ y.cell? ⟨w.heap.size, 33, none⟩ = some (.slice sO s.rom.length cO) ∧ y.cell? ⟨w.heap.size, 30, none⟩ = some (.int .u8 (s.pd.toNat : Int))) := fun y h => by
    have hb := h.bx 0 _ _ _ rfl
    rw [hCe] at hb
    exact ⟨mid_c hb, mid_r hb, hb.c 32 _ rfl, hb.c 33 _ rfl, hb.c 30 _ rfl⟩
  have hZ : Hid (∀ v, Calls Tryz.prog 83 #[.int .i64 (s.ram.length : Int)] v fun e w' => e = .returned (.bool (decide (2048 ≤ s.ram.length ∧ s.ram.length ≤ 32768 ∧ s.ram.length % 2048 = 0))) ∧ w' = v) := fun v => size08_any _ hR v
  have h4 : Hid (∀ v, Calls Tryz.prog 84 #[.agg (cCs s)] v fun e w' => e = .returned (.int .i64 (chkC s)) ∧ Below v.heap.size v w') := fun v => chk4_any s v
  have h5 : Hid (∀ v, Calls Tryz.prog 85 #[.agg (rCs s)] v fun e w' => e = .returned (.int .i64 (chkR s)) ∧ Below v.heap.size v w') := fun v => chk5_any s v
  have sz : Hid ((cCs s).size = 26 ∧ (rCs s).size = 4) := ⟨rfl, rfl⟩
  unfold chkB
  generalize cCs s = CC at hm h4 sz
  generalize rCs s = RR at hm h5 sz
  generalize chkC s = X4 at h4 ⊢
  generalize chkR s = X5 at h5 ⊢
  generalize s.pd.toNat = PD at hm ⊢
  obtain ⟨nR, hnR⟩ : ∃ n, s.ram.length = n := ⟨_, rfl⟩
  obtain ⟨nO, hnO⟩ : ∃ n, s.rom.length = n := ⟨_, rfl⟩
  rw [hnR] at hm hZ hR ⊢
  rw [hnO] at hm hO ⊢
  clear hCe lR lO hnR hnO
  obtain ⟨_, _, d32, d33, d30⟩ := hm.out _ K0.out
  by_cases hz : 2048 ≤ nR ∧ nR ≤ 32768 ∧ nR % 2048 = 0
  · rw [decide_eq_true hz] at hZ
    rw [if_neg (fun x => x hz)]
    clear hz
    by_cases ho : nO = 512
    · rw [if_neg (fun x => x ho)]
      have jo : ((nO : Int) != 512) = false := by rw [bne_eq_false_iff_eq]; omega
      clear ho
      by_cases h4z : X4 = 0
      · subst h4z
        rw [if_neg (fun x => x rfl)]
        by_cases h5z : X5 = 0
        · subst h5z
          rw [if_neg (fun x => x rfl)]
          by_cases hp : 15 < PD
          · rw [if_pos hp]
            have ip : decide ((15 : Int) < (PD : Int)) = true := decide_eq_true (by omega)
            clear hp
            go_enter Tryz.func19, Tryz.ntmps19
            go_wp2_with (first
              | (go_at_call 83; refine (hZ.out _).mono ?_; rintro e w9 ⟨rfl, rfl⟩)
              | ((with_reducible refine gen_world (w.alloc (.cells C 34)) (fun y => Fm w [(w.heap.size, C, 34)] y) ?_ ?_); exact K0.out; intro y0 K1; obtain ⟨_, _, e32, e33, e30⟩ := hm.out _ K1.out)
              | ((with_reducible refine at_loadm rtCp w.heap.size 0 CC ?_ ?_ (.tmp 15) ?_ ?_ ?_ ?_); exact (hm.out _ K1.out).1; exact sz.out.1; (first | rfl | kernel_rfl); rfl; rfl)
              | (go_at_call 84; refine (h4.out _).mono ?_; rintro e y1 ⟨rfl, H1⟩; have K2 : Hid (Fm w [(w.heap.size, C, 34)] y1) := K1.out.below H1; clear H1; obtain ⟨_, _, f32, f33, f30⟩ := hm.out _ K2.out)
              | ((with_reducible refine at_loadm rtRa w.heap.size 26 RR ?_ ?_ (.tmp 21) ?_ ?_ ?_ ?_); exact (hm.out _ K2.out).2.1; exact sz.out.2; (first | rfl | kernel_rfl); rfl; rfl)
              | (go_at_call 85; refine (h5.out _).mono ?_; rintro e y2 ⟨rfl, H2⟩; have K3 : Hid (Fm w [(w.heap.size, C, 34)] y2) := K2.out.below H2; clear H2; obtain ⟨_, _, g32, g33, g30⟩ := hm.out _ K3.out))
            go_ret
            exact ⟨rfl, K3.out.low⟩
          · rw [if_neg hp]
            have ip : decide ((15 : Int) < (PD : Int)) = false := decide_eq_false (by omega)
            clear hp
            go_enter Tryz.func19, Tryz.ntmps19
            go_wp2_with (first
              | (go_at_call 83; refine (hZ.out _).mono ?_; rintro e w9 ⟨rfl, rfl⟩)
              | ((with_reducible refine gen_world (w.alloc (.cells C 34)) (fun y => Fm w [(w.heap.size, C, 34)] y) ?_ ?_); exact K0.out; intro y0 K1; obtain ⟨_, _, e32, e33, e30⟩ := hm.out _ K1.out)
              | ((with_reducible refine at_loadm rtCp w.heap.size 0 CC ?_ ?_ (.tmp 15) ?_ ?_ ?_ ?_); exact (hm.out _ K1.out).1; exact sz.out.1; (first | rfl | kernel_rfl); rfl; rfl)
              | (go_at_call 84; refine (h4.out _).mono ?_; rintro e y1 ⟨rfl, H1⟩; have K2 : Hid (Fm w [(w.heap.size, C, 34)] y1) := K1.out.below H1; clear H1; obtain ⟨_, _, f32, f33, f30⟩ := hm.out _ K2.out)
              | ((with_reducible refine at_loadm rtRa w.heap.size 26 RR ?_ ?_ (.tmp 21) ?_ ?_ ?_ ?_); exact (hm.out _ K2.out).2.1; exact sz.out.2; (first | rfl | kernel_rfl); rfl; rfl)
              | (go_at_call 85; refine (h5.out _).mono ?_; rintro e y2 ⟨rfl, H2⟩; have K3 : Hid (Fm w [(w.heap.size, C, 34)] y2) := K2.out.below H2; clear H2; obtain ⟨_, _, g32, g33, g30⟩ := hm.out _ K3.out))
            go_ret
            exact ⟨rfl, K3.out.low⟩
        · rw [if_pos h5z]
          have j5 : (X5 != 0) = true := by rw [bne_iff_ne]; exact h5z
          clear h5z
          go_enter Tryz.func19, Tryz.ntmps19
          go_wp2_with (first
            | (go_at_call 83; refine (hZ.out _).mono ?_; rintro e w9 ⟨rfl, rfl⟩)
            | ((with_reducible refine gen_world (w.alloc (.cells C 34)) (fun y => Fm w [(w.heap.size, C, 34)] y) ?_ ?_); exact K0.out; intro y0 K1; obtain ⟨_, _, e32, e33, e30⟩ := hm.out _ K1.out)
            | ((with_reducible refine at_loadm rtCp w.heap.size 0 CC ?_ ?_ (.tmp 15) ?_ ?_ ?_ ?_); exact (hm.out _ K1.out).1; exact sz.out.1; (first | rfl | kernel_rfl); rfl; rfl)
            | (go_at_call 84; refine (h4.out _).mono ?_; rintro e y1 ⟨rfl, H1⟩; have K2 : Hid (Fm w [(w.heap.size, C, 34)] y1) := K1.out.below H1; clear H1; obtain ⟨_, _, f32, f33, f30⟩ := hm.out _ K2.out)
            | ((with_reducible refine at_loadm rtRa w.heap.size 26 RR ?_ ?_ (.tmp 21) ?_ ?_ ?_ ?_); exact (hm.out _ K2.out).2.1; exact sz.out.2; (first | rfl | kernel_rfl); rfl; rfl)
            | (go_at_call 85; refine (h5.out _).mono ?_; rintro e y2 ⟨rfl, H2⟩; have K3 : Hid (Fm w [(w.heap.size, C, 34)] y2) := K2.out.below H2; clear H2; obtain ⟨_, _, g32, g33, g30⟩ := hm.out _ K3.out))
          go_ret
          exact ⟨rfl, K3.out.low⟩
      · rw [if_pos h4z]
        have j4 : (X4 != 0) = true := by rw [bne_iff_ne]; exact h4z
        clear h4z
        go_enter Tryz.func19, Tryz.ntmps19
        go_wp2_with (first
          | (go_at_call 83; refine (hZ.out _).mono ?_; rintro e w9 ⟨rfl, rfl⟩)
          | ((with_reducible refine gen_world (w.alloc (.cells C 34)) (fun y => Fm w [(w.heap.size, C, 34)] y) ?_ ?_); exact K0.out; intro y0 K1; obtain ⟨_, _, e32, e33, e30⟩ := hm.out _ K1.out)
          | ((with_reducible refine at_loadm rtCp w.heap.size 0 CC ?_ ?_ (.tmp 15) ?_ ?_ ?_ ?_); exact (hm.out _ K1.out).1; exact sz.out.1; (first | rfl | kernel_rfl); rfl; rfl)
          | (go_at_call 84; refine (h4.out _).mono ?_; rintro e y1 ⟨rfl, H1⟩; have K2 : Hid (Fm w [(w.heap.size, C, 34)] y1) := K1.out.below H1; clear H1; obtain ⟨_, _, f32, f33, f30⟩ := hm.out _ K2.out)
          | ((with_reducible refine at_loadm rtRa w.heap.size 26 RR ?_ ?_ (.tmp 21) ?_ ?_ ?_ ?_); exact (hm.out _ K2.out).2.1; exact sz.out.2; (first | rfl | kernel_rfl); rfl; rfl)
          | (go_at_call 85; refine (h5.out _).mono ?_; rintro e y2 ⟨rfl, H2⟩; have K3 : Hid (Fm w [(w.heap.size, C, 34)] y2) := K2.out.below H2; clear H2; obtain ⟨_, _, g32, g33, g30⟩ := hm.out _ K3.out))
        go_ret
        exact ⟨rfl, K2.out.low⟩
    · rw [if_pos ho]
      have jo : ((nO : Int) != 512) = true := by rw [bne_iff_ne]; omega
      clear ho
      go_enter Tryz.func19, Tryz.ntmps19
      go_wp2_with (first
        | (go_at_call 83; refine (hZ.out _).mono ?_; rintro e w9 ⟨rfl, rfl⟩)
        | ((with_reducible refine gen_world (w.alloc (.cells C 34)) (fun y => Fm w [(w.heap.size, C, 34)] y) ?_ ?_); exact K0.out; intro y0 K1; obtain ⟨_, _, e32, e33, e30⟩ := hm.out _ K1.out)
        | ((with_reducible refine at_loadm rtCp w.heap.size 0 CC ?_ ?_ (.tmp 15) ?_ ?_ ?_ ?_); exact (hm.out _ K1.out).1; exact sz.out.1; (first | rfl | kernel_rfl); rfl; rfl)
        | (go_at_call 84; refine (h4.out _).mono ?_; rintro e y1 ⟨rfl, H1⟩; have K2 : Hid (Fm w [(w.heap.size, C, 34)] y1) := K1.out.below H1; clear H1; obtain ⟨_, _, f32, f33, f30⟩ := hm.out _ K2.out)
        | ((with_reducible refine at_loadm rtRa w.heap.size 26 RR ?_ ?_ (.tmp 21) ?_ ?_ ?_ ?_); exact (hm.out _ K2.out).2.1; exact sz.out.2; (first | rfl | kernel_rfl); rfl; rfl)
        | (go_at_call 85; refine (h5.out _).mono ?_; rintro e y2 ⟨rfl, H2⟩; have K3 : Hid (Fm w [(w.heap.size, C, 34)] y2) := K2.out.below H2; clear H2; obtain ⟨_, _, g32, g33, g30⟩ := hm.out _ K3.out))
      go_ret
      exact ⟨rfl, K1.out.low⟩
  · rw [decide_eq_false hz] at hZ
    rw [if_pos hz]
    clear hz
    go_enter Tryz.func19, Tryz.ntmps19
    go_wp2_with (first
      | (go_at_call 83; refine (hZ.out _).mono ?_; rintro e w9 ⟨rfl, rfl⟩)
      | ((with_reducible refine gen_world (w.alloc (.cells C 34)) (fun y => Fm w [(w.heap.size, C, 34)] y) ?_ ?_); exact K0.out; intro y0 K1; obtain ⟨_, _, e32, e33, e30⟩ := hm.out _ K1.out)
      | ((with_reducible refine at_loadm rtCp w.heap.size 0 CC ?_ ?_ (.tmp 15) ?_ ?_ ?_ ?_); exact (hm.out _ K1.out).1; exact sz.out.1; (first | rfl | kernel_rfl); rfl; rfl)
      | (go_at_call 84; refine (h4.out _).mono ?_; rintro e y1 ⟨rfl, H1⟩; have K2 : Hid (Fm w [(w.heap.size, C, 34)] y1) := K1.out.below H1; clear H1; obtain ⟨_, _, f32, f33, f30⟩ := hm.out _ K2.out)
      | ((with_reducible refine at_loadm rtRa w.heap.size 26 RR ?_ ?_ (.tmp 21) ?_ ?_ ?_ ?_); exact (hm.out _ K2.out).2.1; exact sz.out.2; (first | rfl | kernel_rfl); rfl; rfl)
      | (go_at_call 85; refine (h5.out _).mono ?_; rintro e y2 ⟨rfl, H2⟩; have K3 : Hid (Fm w [(w.heap.size, C, 34)] y2) := K2.out.below H2; clear H2; obtain ⟨_, _, g32, g33, g30⟩ := hm.out _ K3.out))
    go_ret
    exact ⟨rfl, K1.out.low⟩
end Go.Proofs.YtehnhjdjjalifaaGreatDoor
