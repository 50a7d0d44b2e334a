/- The document's reading of a byte: the walk. -/
import Derived.Test.YtdfjfacilbahkaaDoorUc
namespace Go.Proofs.YtdfjfacilbahkaaDoor
open Go Go.RowKit
set_option linter.unusedVariables false
set_option maxHeartbeats 2000000
set_option maxRecDepth 20000

theorem pow2_128 : ∀ k, k < 8 → (2 ^ k : Nat) ≤ 128 := by decide
theorem lead_nil {L : List (Int × Int)} {j n : Nat} (hn : L.length = n) (h : ¬ j < n) : leadW (L.drop j) j = (122, j, []) := by
  rw [List.drop_eq_nil_of_le (by omega)]
  rfl
theorem nine_nil {L : List (Int × Int)} {j n k : Nat} {v o w : Int} (hn : L.length = n) (h : ¬ j < n) : nineW (k + 1) (L.drop j) j v o w = (122, j, 0, 0, []) := by
  rw [List.drop_eq_nil_of_le (by omega)]
  rfl
theorem rbyte_any (w : World) (sp : Option Addr) (cap : Nat) (l : List (Int × Int)) (i : Nat) (hl : Hid (L2 w sp l)) (hn : l.length ≤ 9223372036854775807) (hi : i ≤ l.length) :
    Calls Tryd.prog 28 #[.slice sp l.length cap, .int .i64 (i : Int)] w fun e w' => e = .returned (.tuple #[.int .u8 (byteL (l.drop i) i).1, .int .i64 (byteL (l.drop i) i).2.1, .int .i64 ((byteL (l.drop i) i).2.2.1 : Int)]) ∧ Below w.heap.size w w' := by
  obtain ⟨n, hn'⟩ : ∃ n, l.length = n := ⟨_, rfl⟩
  have ni : (n : Int) ≤ 9223372036854775807 := by omega
  obtain ⟨Y, hY⟩ : ∃ x, byteL (l.drop i) i = x := ⟨_, rfl⟩
  rw [hY]
  obtain ⟨LD, hLD⟩ : ∃ x, leadW (l.drop i) i = x := ⟨_, rfl⟩
  unfold byteL at hY
  rw [hLD] at hY
  replace hY : Hid _ := hY
  rw [hn'] at hi ⊢
  have hl' : Hid (l.length = n) := hn'
  have hst : Hid (i ≤ n ∧ leadW (l.drop i) i = LD) := ⟨hi, hLD⟩
  clear hn hn' hi hLD
  go_enter Tryd.func28, Tryd.ntmps28
  go_wp2
  go_loopw [1, 7] (fun a b wz => ∃ (j : Nat) (B : Int) (y : World), y = wz ∧ a = .int .i64 (j : Int) ∧ b = .int .i64 B ∧ Hid (j ≤ n ∧ ((B = 0 ∧ leadW (l.drop j) j = LD) ∨ (B = 1 ∧ 0 < j ∧ LD = (0, j, l.drop j)))) ∧ Hid (Below w.heap.size w y)) (fun a b _ => (n - intOf a).toNat + (1 - intOf b).toNat)
  case atStart => exact ⟨i, 0, w, rfl, rfl, rfl, ⟨hst.out.1, .inl ⟨rfl, hst.out.2⟩⟩, Below.refl _ _⟩
  case round =>
    obtain ⟨j, B, y, rfl, rfl, rfl, J, K⟩ := hrel
    rcases J.out.2 with ⟨rfl, J2⟩ | ⟨rfl, hj0, J2⟩
    · replace J2 : Hid _ := J2
      by_cases hlt : j < n
      · obtain ⟨p, hp, hdrop⟩ := row_at hl'.out hlt
        obtain ⟨g, o, rfl, hc, -, -⟩ := l2_at (hl.out.below K.out) j p hp
        replace hc : Hid (y.rangeAt g (o + j * 2) (c2 p).toArray.toList) := hc
        have ij := fun u => idxP (g := g) (off := o) (len := n) (cap := cap) Tryd.underlying24 (s := 2) (by kernel_rfl) .i64 j u hlt
        have hji : (j : Int) < n := by omega
        have hlt' : Hid (j < n) := hlt
        have hB := rbit_any y p
        have J3 : Hid ((if bitW p < 0 then (120, j, []) else if bitW p = 0 then leadW (l.drop (j + 1)) (j + 1) else (0, j + 1, l.drop (j + 1))) = LD) := by
          have h := J2.out
          rw [hdrop] at h
          exact h
        have hcs := bitW_cases p
        obtain ⟨b, hb⟩ : ∃ b, bitW p = b := ⟨_, rfl⟩
        rw [hb] at hB J3 hcs
        clear hb hp hdrop hlt J2
        rcases hcs with e | e | e
        · subst e
          have J4 : Hid ((120, j, []) = LD) := J3.out
          go_wp2_with (first
            | ((with_reducible refine at_loadm rtWa g (o + j * 2) (c2 p).toArray ?_ ?_ (.tmp 22) ?_ ?_ ?_ ?_); exact hc.out; rfl; kernel_rfl; rfl; rfl)
            | (go_at_call 40; refine hB.mono ?_; rintro e y2 ⟨rfl, h2⟩; have U2 : Hid (Below w.heap.size w y2) := K.out.trans (h2.mono K.out.size); clear h2))
          go_ret3
          refine ⟨?_, U2.out⟩
          rw [← hY.out, ← J4.out]
          rfl
        · subst e
          have J4 : Hid (leadW (l.drop (j + 1)) (j + 1) = LD) := J3.out
          go_wp2_with (first
            | ((with_reducible refine at_loadm rtWa g (o + j * 2) (c2 p).toArray ?_ ?_ (.tmp 22) ?_ ?_ ?_ ?_); exact hc.out; rfl; kernel_rfl; rfl; rfl)
            | (go_at_call 40; refine hB.mono ?_; rintro e y2 ⟨rfl, h2⟩; have U2 : Hid (Below w.heap.size w y2) := K.out.trans (h2.mono K.out.size); clear h2))
          go_roundw
          case rel => exact ⟨j + 1, 0, _, rfl, by simp, rfl, ⟨hlt'.out, .inl ⟨rfl, J4.out⟩⟩, U2⟩
          case measure => have := hlt'.out; simp [intOf]; omega
        · subst e
          have J4 : Hid ((0, j + 1, l.drop (j + 1)) = LD) := J3.out
          go_wp2_with (first
            | ((with_reducible refine at_loadm rtWa g (o + j * 2) (c2 p).toArray ?_ ?_ (.tmp 22) ?_ ?_ ?_ ?_); exact hc.out; rfl; kernel_rfl; rfl; rfl)
            | (go_at_call 40; refine hB.mono ?_; rintro e y2 ⟨rfl, h2⟩; have U2 : Hid (Below w.heap.size w y2) := K.out.trans (h2.mono K.out.size); clear h2))
          go_roundw
          case rel => exact ⟨j + 1, 1, _, rfl, by simp, rfl, ⟨hlt'.out, .inr ⟨rfl, by omega, J4.out.symm⟩⟩, U2⟩
          case measure => have := hlt'.out; simp [intOf]; omega
      · have J3 : Hid (LD = (122, j, [])) := by have := J2.out; rw [lead_nil hl'.out hlt] at this; exact this.symm
        have hje : j = n := by have := J.out.1; omega
        subst hje
        clear hlt
        go_wp2
        go_ret3
        refine ⟨?_, K.out⟩
        rw [← hY.out, J3.out]
        rfl
    · obtain ⟨NW, hNW⟩ : ∃ x, nineW 9 (l.drop j) j 0 0 1 = x := ⟨_, rfl⟩
      have hY2 : Hid ((if NW.1 ≠ 0 then (0, NW.1, NW.2.1, []) else if NW.2.2.2.1 % 2 = 0 then (0, 121, NW.2.1 - 1, []) else (NW.2.2.1, 0, NW.2.1, NW.2.2.2.2)) = Y) := by
        show _ = _
        have h := hY.out
        rw [J2] at h
        simp only [ne_eq, not_true_eq_false, if_false] at h
        rw [hNW] at h
        simpa using h
      have hst2 : Hid (j ≤ n ∧ 0 < j ∧ nineW 9 (l.drop j) j 0 0 1 = NW) := ⟨J.out.1, hj0, hNW⟩
      clear hNW hj0 J2 J hY hst
      go_wp2
      go_loopw [1, 7, 8, 9, 10, 11] (fun a b v o' wo k wz => ∃ (j K : Nat) (B V O : Int) (y : World), y = wz ∧ a = .int .i64 (j : Int) ∧ b = .int .i64 B ∧ v = .int .i64 V ∧ o' = .int .i64 O ∧ wo = .int .i64 ((2 ^ (min K 8) : Nat) : Int) ∧ k = .int .i64 (K : Int) ∧ Hid (j ≤ n ∧ K ≤ 9 ∧ 0 < j ∧ 0 ≤ V ∧ V < ((2 ^ (min K 8) : Nat) : Int) ∧ 0 ≤ O ∧ O ≤ K ∧ nineW (9 - K) (l.drop j) j V O ((2 ^ (min K 8) : Nat) : Int) = NW) ∧ Hid (Below w.heap.size w y)) (fun _ _ _ _ _ k _ => (9 - intOf k).toNat)
      case atStart => exact ⟨j, 0, _, 0, 0, _, rfl, rfl, rfl, rfl, rfl, rfl, rfl, ⟨hst2.out.1, by omega, hst2.out.2.1, by omega, by decide, by omega, by omega, hst2.out.2.2⟩, K⟩
      case round =>
        obtain ⟨j, K, B, V, O, y, rfl, rfl, rfl, rfl, rfl, rfl, rfl, J, U⟩ := hrel
        obtain ⟨W, hW⟩ : ∃ W : Int, ((2 ^ (min K 8) : Nat) : Int) = W := ⟨_, rfl⟩
        rw [hW] at J ⊢
        replace hW : Hid _ := hW
        have v0 := J.out.2.2.2.1
        have o0 := J.out.2.2.2.2.2.1
        have o9 : O ≤ 9 := by have := J.out.2.2.2.2.2.2.1; have := J.out.2.1; omega
        have w256 : W ≤ 256 := by
          rw [← hW.out]
          have : (2 ^ (min K 8) : Nat) ≤ 2 ^ 8 := Nat.pow_le_pow_right (by omega) (by omega)
          omega
        have v255 : V ≤ 255 := by have := J.out.2.2.2.2.1; omega
        by_cases hK : K < 9
        · have hKi : (K : Int) < 9 := by omega
          have J1 : Hid (nineW (8 - K + 1) (l.drop j) j V O W = NW) := by
            have h := J.out.2.2.2.2.2.2.2
            rw [show 9 - K = 8 - K + 1 by omega] at h
            exact h
          by_cases hlt : j < n
          · obtain ⟨p, hp, hdrop⟩ := row_at hl'.out hlt
            obtain ⟨g, o, rfl, hc, -, -⟩ := l2_at (hl.out.below U.out) j p hp
            replace hc : Hid (y.rangeAt g (o + j * 2) (c2 p).toArray.toList) := hc
            have ij := fun u => idxP (g := g) (off := o) (len := n) (cap := cap) Tryd.underlying24 (s := 2) (by kernel_rfl) .i64 j u hlt
            have hji : (j : Int) < n := by omega
            have hlt' : Hid (j < n ∧ K < 9) := ⟨hlt, hK⟩
            have hB := rbit_any y p
            have J3 : Hid ((if bitW p < 0 then (120, j, 0, 0, []) else nineW (8 - K) (l.drop (j + 1)) (j + 1) (if 0 < 8 - K then V + bitW p * W else V) (O + bitW p) (if 0 < 8 - K then 2 * W else W)) = NW) := by
              have h := J1.out
              rw [hdrop] at h
              exact h
            have hcs := bitW_cases p
            obtain ⟨b, hb⟩ : ∃ b, bitW p = b := ⟨_, rfl⟩
            rw [hb] at hB J3 hcs
            clear hb hp hdrop hlt J1 hK
            rcases hcs with e | hcs
            · subst e
              have J4 : Hid ((120, j, 0, 0, []) = NW) := J3.out
              go_wp2_with (first
                | ((with_reducible refine at_loadm rtWa g (o + j * 2) (c2 p).toArray ?_ ?_ (.tmp 42) ?_ ?_ ?_ ?_); exact hc.out; rfl; kernel_rfl; rfl; rfl)
                | (go_at_call 40; refine hB.mono ?_; rintro e y2 ⟨rfl, h2⟩; have U2 : Hid (Below w.heap.size w y2) := U.out.trans (h2.mono U.out.size); clear h2))
              go_ret3
              refine ⟨?_, U2.out⟩
              rw [← hY2.out, ← J4.out]
              rfl
            · have b0 : 0 ≤ b := by omega
              have b1 : b ≤ 1 := by omega
              have qb : decide (b < 0) = false := by simp; omega
              have J4 : Hid (nineW (8 - K) (l.drop (j + 1)) (j + 1) (if 0 < 8 - K then V + b * W else V) (O + b) (if 0 < 8 - K then 2 * W else W) = NW) := by
                have h := J3.out
                rw [if_neg (by omega)] at h
                exact h
              clear J3
              by_cases hK8 : K < 8
              · have hK8i : (K : Int) < 8 := by omega
                have hWK : Hid (((2 ^ (min (K + 1) 8) : Nat) : Int) = 2 * W ∧ W ≤ 128 ∧ 1 ≤ W) := by
                  have h := hW.out
                  have h1 := pow2_128 K hK8
                  have h2 : 0 < 2 ^ K := Nat.pow_pos (by omega)
                  rw [show min K 8 = K by omega] at h
                  refine ⟨?_, by omega, by omega⟩
                  rw [show min (K + 1) 8 = K + 1 by omega, Nat.pow_succ]
                  omega
                have w128 := hWK.out.2.1
                have w1 := hWK.out.2.2
                have hbw : 0 ≤ b * W ∧ b * W ≤ W := by
                  rcases hcs with e | e
                  · rw [e]; omega
                  · rw [e]; omega
                have bw0 := hbw.1
                have bw1 : b * W ≤ 128 := by omega
                have J5 : Hid (nineW (9 - (K + 1)) (l.drop (j + 1)) (j + 1) (V + b * W) (O + b) (2 * W) = NW) := by
                  have h := J4.out
                  rw [if_pos (by omega), if_pos (by omega), show 8 - K = 9 - (K + 1) by omega] at h
                  exact h
                have hin : Hid (0 ≤ V + b * W ∧ V + b * W < 2 * W ∧ 0 ≤ O + b ∧ O + b ≤ (K : Int) + 1) := ⟨by omega, by have := J.out.2.2.2.2.1; omega, by omega, by have := J.out.2.2.2.2.2.2.1; omega⟩
                clear J4 hbw hcs hK8
                go_wp2_with (first
                  | ((with_reducible refine at_loadm rtWa g (o + j * 2) (c2 p).toArray ?_ ?_ (.tmp 42) ?_ ?_ ?_ ?_); exact hc.out; rfl; kernel_rfl; rfl; rfl)
                  | (go_at_call 40; refine hB.mono ?_; rintro e y2 ⟨rfl, h2⟩; have U2 : Hid (Below w.heap.size w y2) := U.out.trans (h2.mono U.out.size); clear h2))
                go_roundw
                case rel => exact ⟨j + 1, K + 1, b, _, _, _, rfl, by simp, rfl, rfl, rfl, by rw [hWK.out.1], by simp, ⟨hlt'.out.1, by have := hlt'.out.2; omega, by omega, hin.out.1, by rw [hWK.out.1]; exact hin.out.2.1, hin.out.2.2.1, by have := hin.out.2.2.2; omega, by rw [hWK.out.1]; exact J5.out⟩, U2⟩
                case measure => have := hlt'.out; simp [intOf]; omega
              · have hKe : K = 8 := by have := hlt'.out.2; omega
                subst hKe
                have J5 : Hid (nineW 0 (l.drop (j + 1)) (j + 1) V (O + b) W = NW) := J4.out
                have hin : Hid (0 ≤ O + b ∧ O + b ≤ (8 : Int) + 1) := ⟨by omega, by have := J.out.2.2.2.2.2.2.1; omega⟩
                clear J4 hcs hK8
                go_wp2_with (first
                  | ((with_reducible refine at_loadm rtWa g (o + j * 2) (c2 p).toArray ?_ ?_ (.tmp 42) ?_ ?_ ?_ ?_); exact hc.out; rfl; kernel_rfl; rfl; rfl)
                  | (go_at_call 40; refine hB.mono ?_; rintro e y2 ⟨rfl, h2⟩; have U2 : Hid (Below w.heap.size w y2) := U.out.trans (h2.mono U.out.size); clear h2))
                go_roundw
                case rel => exact ⟨j + 1, 9, b, _, _, _, rfl, by simp, rfl, rfl, rfl, by rw [← hW.out]; rfl, rfl, ⟨hlt'.out.1, by omega, by omega, v0, by have := J.out.2.2.2.2.1; rw [← hW.out] at this; exact this, hin.out.1, hin.out.2, by have h := J5.out; rw [← hW.out] at h; exact h⟩, U2⟩
                case measure => simp [intOf]
          · have J3 : Hid (NW = (122, j, 0, 0, [])) := by have := J1.out; rw [nine_nil hl'.out hlt] at this; exact this.symm
            have hje : j = n := by have := J.out.1; omega
            subst hje
            clear hlt hK
            go_wp2
            go_ret3
            refine ⟨?_, U.out⟩
            rw [← hY2.out, J3.out]
            rfl
        · have hKe : K = 9 := by have := J.out.2.1; omega
          subst hKe
          have J3 : Hid (NW = (0, j, V, O, l.drop j)) := J.out.2.2.2.2.2.2.2.symm
          have r2 : O.tmod 2 = O % 2 := Int.tmod_eq_emod_of_nonneg o0
          have j1 : (0 : Int) < j := by have := J.out.2.2.1; omega
          have jm : Hid (((j - 1 : Nat) : Int) = (j : Int) - 1) := by show _ = _; omega
          have ve : Hid (V % 256 = V) := by show _ = _; omega
          have jn : (j : Int) ≤ n := by have := J.out.1; omega
          clear hK
          by_cases ho : O % 2 = 0
          · have hY3 : Hid (Y = (0, 121, j - 1, [])) := by
              show _ = _
              rw [← hY2.out, J3.out]
              simp [ho]
            rw [ho] at r2
            clear ho
            go_wp2
            go_ret3
            refine ⟨?_, U.out⟩
            rw [hY3.out]
            simp only [jm.out]
            rfl
          · have hY3 : Hid (Y = (V, 0, j, l.drop j)) := by
              show _ = _
              rw [← hY2.out, J3.out]
              simp [ho]
            have r3 : O.tmod 2 = 1 := by omega
            clear ho r2
            go_wp2
            go_ret3
            refine ⟨?_, U.out⟩
            rw [hY3.out]
            simp []
end Go.Proofs.YtdfjfacilbahkaaDoor
