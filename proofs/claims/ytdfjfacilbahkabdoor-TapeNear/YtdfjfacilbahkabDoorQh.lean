/- A byte read off a tape: the program's. -/
import Derived.Test.YtdfjfacilbahkabDoorQf
import Derived.Test.YtdfjfacilbahkabDoorQg
namespace Go.Proofs.YtdfjfacilbahkabDoor
open Go Go.RowKit
set_option linter.unusedVariables false
set_option maxHeartbeats 1000000
set_option maxRecDepth 20000

theorem byte_any (w0 y0 : World) (hb : Nat) (sp : Option Addr) (n cap i : Nat) (l : List (Int × Int)) (hl : Hid (L2 w0 sp l)) (hln : Hid (l.length = n)) (hn : (n : Int) ≤ 9223372036854775807) (hi : i ≤ n) (hw : Hid (Below w0.heap.size w0 y0)) (hb0 : Hid (w0.heap.size ≤ hb)) (hB : Hid (Bx y0 hb (hdC sp n cap i) 43)) :
    Calls Tryd.prog 13 #[.pointer (some ⟨hb, 0, none⟩)] y0 fun e z => e = .returned (.tuple #[.int .u8 (byteL (l.drop i) i).1, errV (byteL (l.drop i) i).2.1 (byteL (l.drop i) i).2.2.1]) ∧ Hid (Mv hb y0 z ∧ ((byteL (l.drop i) i).2.1 = 0 → Bx z hb (hdC sp n cap (byteL (l.drop i) i).2.2.1) 43)) := by
  have hBe := begin_any w0 y0 hb sp n cap i l hl hln hn hi hw hb0 hB
  have hrest : Hid ((leadW (l.drop i) i).1 = 0 → (leadW (l.drop i) i).2.2 = l.drop (leadW (l.drop i) i).2.1 ∧ i < (leadW (l.drop i) i).2.1 ∧ (leadW (l.drop i) i).2.1 ≤ l.length) := leadW_rest l (l.drop i) i rfl (by rw [hln.out]; exact hi)
  obtain ⟨Y, hY⟩ : ∃ x, byteL (l.drop i) i = x := ⟨_, rfl⟩
  rw [hY]
  obtain ⟨LD, hLD⟩ : ∃ x, leadW (l.drop i) i = x := ⟨_, rfl⟩
  unfold byteL at hY
  rw [hLD] at hY hBe hrest
  replace hY : Hid _ := hY
  clear hLD
  by_cases h1 : LD.1 = 0
  · obtain ⟨r1, r2, r3⟩ := hrest.out h1
    rw [hln.out] at r3
    have qE : errV LD.1 LD.2.1 = .nilIface := by unfold errV; rw [if_pos h1]
    rw [qE] at hBe
    obtain ⟨t0, ht0⟩ : ∃ t, LD.2.1 = t := ⟨_, rfl⟩
    rw [ht0] at r1 r2 r3 hBe
    obtain ⟨NW, hNW⟩ : ∃ x, nineW 9 (l.drop t0) t0 0 0 1 = x := ⟨_, rfl⟩
    have hY2 : Hid ((if NW.1 ≠ 0 then (0, NW.1, NW.2.1, []) else if NW.2.2.2.1 % 2 = 0 then (0, 121, NW.2.1 - 1, []) else (NW.2.2.1, 0, NW.2.1, NW.2.2.2.2)) = Y) := by
      have h := hY.out
      rw [if_neg (by simpa using h1), r1, ht0, hNW] at h
      exact h
    have st : Hid (t0 ≤ n ∧ 0 < t0 ∧ nineW (9 - 0) (l.drop t0) t0 ((0 % 256 : Nat) : Int) (sumI (bitsN 0 0)) ((2 ^ (min 0 8) : Nat) : Int) = NW) := ⟨r3, by omega, hNW⟩
    replace h1 : Hid _ := h1
    clear hY r1 r2 r3 qE ht0 hNW hrest
    go_enter Tryd.func13, Tryd.ntmps13
    go_wp2_with (go_at_call 18; refine hBe.mono ?_; rintro e z1 ⟨rfl, H1⟩)
    have K1 : Hid (Bx z1 hb (hdC sp n cap t0) 43 ∧ Mv hb y0 z1) := ⟨H1.out.2 h1.out, H1.out.1⟩
    clear H1 hBe
    go_loopw [5, 14] (fun a b wz => ∃ (k R j : Nat) (y : World), y = wz ∧ a = .int .u16 (R : Int) ∧ b = .int .i64 (k : Int) ∧ Hid (k ≤ 9 ∧ R < 2 ^ k ∧ j ≤ n ∧ 0 < j ∧ nineW (9 - k) (l.drop j) j ((R % 256 : Nat) : Int) (sumI (bitsN k R)) ((2 ^ (min k 8) : Nat) : Int) = NW) ∧ Hid (Bx y hb (hdC sp n cap j) 43 ∧ Mv hb y0 y)) (fun _ b _ => (9 - intOf b).toNat)
    case atStart => exact ⟨0, 0, t0, z1, rfl, rfl, rfl, ⟨by decide, by decide, st.out.1, st.out.2.1, st.out.2.2⟩, K1⟩
    case round =>
      obtain ⟨k, R, j, y, rfl, rfl, rfl, J, K⟩ := hrel
      have hL : Hid (L2 y sp l) := hl.out.below (hw.out.trans (K.out.2.low _ hb0.out hw.out.size))
      have R512 : (R : Int) < 512 := by have h1 := J.out.2.1; have h2 := p2_lt k J.out.1; omega
      by_cases hk : k < 9
      · have hki : (k : Int) < 9 := by omega
        have hk' : Hid (k < 9) := hk
        by_cases hlt : j < n
        · obtain ⟨p, hp, hdrop⟩ := row_at hln.out hlt
          have hlt' : Hid (j < n) := hlt
          by_cases e : bitW p < 0
          · have hW := hbit_wrong y hb sp n cap j l hL hln.out hn hlt p hp e K.out.1
            have J4 : Hid (Y = (0, 120, j, [])) := by
              have h := J.out.2.2.2.2
              rw [hdrop, show 9 - k = (8 - k) + 1 by omega] at h
              unfold nineW at h
              rw [if_pos e] at h
              have h2 := hY2.out
              rw [← h] at h2
              exact h2.symm
            have qv : Hid (fltV 120 j = errV Y.2.1 Y.2.2.1 ∧ Y.1 = 0 ∧ Y.2.1 ≠ 0) := by rw [J4.out]; exact ⟨rfl, rfl, by simp⟩
            clear e hp hdrop hlt hk
            go_wp2_with (go_at_call 19; refine hW.mono ?_; rintro e z ⟨rfl, H⟩; replace H : Hid _ := H; dsimp only [fltV])
            go_ret2
            exact ⟨by rw [← qv.out.1, qv.out.2.1]; rfl, K.out.2.trans (Mv.of H.out), fun h => absurd h qv.out.2.2⟩
          · have hbc : bitW p = 0 ∨ bitW p = 1 := by rcases bitW_cases p with h | h | h <;> omega
            obtain ⟨B, hB1, hB2⟩ : ∃ B : Nat, bitW p = (B : Int) ∧ B ≤ 1 := by
              rcases hbc with h | h
              · exact ⟨0, h, by decide⟩
              · exact ⟨1, h, by decide⟩
            have hW := hbit_good y hb sp n cap j l hL hln.out hn hlt p hp (by omega) K.out.1
            have J4 : Hid (nineW (9 - (k + 1)) (l.drop (j + 1)) (j + 1) (((R + B * 2 ^ k) % 256 : Nat) : Int) (sumI (bitsN (k + 1) (R + B * 2 ^ k))) ((2 ^ (min (k + 1) 8) : Nat) : Int) = NW) := by
              have h := J.out.2.2.2.2
              rw [hdrop, nine_step k R hk J.out.2.1 p _ j B hB2 hB1] at h
              exact h
            rw [hB1] at hW
            have hfin : Hid (bits .or .u16 (R : Int) (IntKind.u16.wrap ((B : Int) * 2 ^ k)) = ((R + B * 2 ^ k : Nat) : Int)) := by
              show _ = _
              have h2 : B * 2 ^ k ≤ 2 ^ k := by rcases Nat.le_one_iff_eq_zero_or_eq_one.1 hB2 with e | e <;> subst e <;> simp
              have h3 := wrapn16 (B * 2 ^ k) (by have := p2_lt k J.out.1; omega)
              have h4 : ((B : Int) * 2 ^ k) = ((B * 2 ^ k : Nat) : Int) := by push_cast; rfl
              rw [h4, h3]
              exact orBit R B k (by omega) J.out.2.1 hB2
            have hRn : Hid (R + B * 2 ^ k < 2 ^ (k + 1)) := by
              show _ < _
              have h1 := J.out.2.1
              have h2 : B * 2 ^ k ≤ 2 ^ k := by rcases Nat.le_one_iff_eq_zero_or_eq_one.1 hB2 with e | e <;> subst e <;> simp
              rw [Nat.pow_succ]
              omega
            obtain ⟨R2, hR2⟩ : ∃ x : Nat, R + B * 2 ^ k = x := ⟨_, rfl⟩
            rw [hR2] at hfin hRn J4
            have Bi : (B : Int) ≤ 1 := by omega
            clear e hp hdrop hlt hk hbc hB1 hB2 hR2
            go_wp2_with (go_at_call 19; refine hW.mono ?_; rintro e z ⟨rfl, H⟩)
            go_roundw
            case rel => exact ⟨k + 1, R2, j + 1, z, rfl, by rw [hfin.out], by simp, ⟨hk'.out, hRn.out, hlt'.out, by omega, J4.out⟩, H.out.1, K.out.2.trans H.out.2⟩
            case measure => have := hk'.out; simp [intOf]; omega
        · have hje : j = n := by have := J.out.2.2.1; omega
          subst hje
          have hW := hbit_end y hb sp j cap hn K.out.1
          have J4 : Hid (Y = (0, 122, j, [])) := by
            have h := J.out.2.2.2.2
            rw [show 9 - k = (8 - k) + 1 by omega, nine_nil hln.out hlt] at h
            have h2 := hY2.out
            rw [← h] at h2
            exact h2.symm
          have qv : Hid (fltV 122 j = errV Y.2.1 Y.2.2.1 ∧ Y.1 = 0 ∧ Y.2.1 ≠ 0) := by rw [J4.out]; exact ⟨rfl, rfl, by simp⟩
          clear hlt hk
          go_wp2_with (go_at_call 19; refine hW.mono ?_; rintro e z ⟨rfl, H⟩; replace H : Hid _ := H; dsimp only [fltV])
          go_ret2
          exact ⟨by rw [← qv.out.1, qv.out.2.1]; rfl, K.out.2.trans (Mv.of H.out), fun h => absurd h qv.out.2.2⟩
      · have hke : k = 9 := by have := J.out.1; omega
        subst hke
        have hO := odd_any y R (by have := J.out.2.1; omega)
        have hpar : parN 10 R = decide (sumI (bitsN 9 R) % 2 = 1) := by
          rw [parN_sum, bitsN_snoc, sumI_app, show R / 2 ^ 9 % 2 = 0 by rw [Nat.div_eq_of_lt J.out.2.1]]
          simp [sumI]
        have J3 : Hid (NW = (0, j, ((R % 256 : Nat) : Int), sumI (bitsN 9 R), l.drop j)) := J.out.2.2.2.2.symm
        have j1 : (0 : Int) < j := by have := J.out.2.2.2.1; omega
        have jn : (j : Int) ≤ n := by have := J.out.2.2.1; omega
        have jm : Hid (((j - 1 : Nat) : Int) = (j : Int) - 1) := by show _ = _; omega
        rw [hpar] at hO
        have c1 := K.out.1.c 1 (.int .i64 (j : Int)) rfl
        by_cases ho : sumI (bitsN 9 R) % 2 = 0
        · have hY3 : Hid (Y = (0, 121, j - 1, [])) := by
            show _ = _
            rw [← hY2.out, J3.out]
            simp [ho]
          have qv : Hid (fltV 121 (j - 1) = errV Y.2.1 Y.2.2.1 ∧ Y.1 = 0 ∧ Y.2.1 ≠ 0) := by rw [hY3.out]; exact ⟨rfl, rfl, by simp⟩
          have qo : decide (sumI (bitsN 9 R) % 2 = 1) = false := by simp; omega
          rw [qo] at hO
          have hbu := builtFa 121 ((j : Int) - 1)
          clear ho hk hpar qo
          go_wp2_with (go_at_call 12; refine hO.mono ?_; rintro e z ⟨rfl, rfl⟩)
          go_quiet (fail)
          go_wp2
          go_ret2
          exact ⟨by rw [← qv.out.1, qv.out.2.1]; unfold fltV; rw [jm.out]; rfl, K.out.2.trans (Mv.of (below_drewN (Below.refl _ _))), fun h => absurd h qv.out.2.2⟩
        · have hY3 : Hid (Y = (((R % 256 : Nat) : Int), 0, j, l.drop j)) := by
            show _ = _
            rw [← hY2.out, J3.out]
            simp [ho]
          have qo : decide (sumI (bitsN 9 R) % 2 = 1) = true := by simp; omega
          rw [qo] at hO
          have qv : Hid (Y.1 = (R : Int) % 256 ∧ errV Y.2.1 Y.2.2.1 = .nilIface ∧ Y.2.2.1 = j) := by rw [hY3.out]; exact ⟨by simp, rfl, rfl⟩
          clear ho hk hpar qo
          go_wp2_with (go_at_call 12; refine hO.mono ?_; rintro e z ⟨rfl, rfl⟩)
          go_ret2
          exact ⟨by rw [qv.out.1, qv.out.2.1]; rfl, K.out.2, fun h => by rw [qv.out.2.2]; exact K.out.1⟩
  · have qE : errV LD.1 LD.2.1 = fltV LD.1 LD.2.1 := by unfold errV; rw [if_neg h1]
    have hY3 : Hid (Y = (0, LD.1, LD.2.1, [])) := by
      show _ = _
      have h := hY.out
      rw [if_pos h1] at h
      exact h.symm
    have qv : Hid (fltV LD.1 LD.2.1 = errV Y.2.1 Y.2.2.1 ∧ Y.1 = 0 ∧ Y.2.1 ≠ 0) := by rw [hY3.out]; exact ⟨qE.symm, rfl, h1⟩
    rw [qE] at hBe
    obtain ⟨E, hE⟩ : ∃ E, LD.1 = E := ⟨_, rfl⟩
    obtain ⟨T, hT⟩ : ∃ T, LD.2.1 = T := ⟨_, rfl⟩
    rw [hE, hT] at hBe qv
    clear h1 qE hY hY3 hrest hE hT
    go_enter Tryd.func13, Tryd.ntmps13
    go_wp2_with (go_at_call 18; refine hBe.mono ?_; rintro e z1 ⟨rfl, H1⟩; dsimp only [fltV])
    go_ret2
    exact ⟨by rw [← qv.out.1, qv.out.2.1]; rfl, H1.out.1, fun h => absurd h qv.out.2.2⟩
end Go.Proofs.YtdfjfacilbahkabDoor
