/- Bytes read as a trace, by the document. -/
import Derived.Test.YtoajmicdphffnaaDoorKz
import Derived.Test.YtoajmicdphffnaaDoorKk
namespace Go.Proofs.YtoajmicdphffnaaDoor
open Go Go.RowKit
set_option linter.unusedVariables false
set_option maxHeartbeats 2000000
set_option maxRecDepth 20000

theorem unpack_bad1 (l : List UInt8) (h : l.length < 8 ∨ l.take 4 ≠ [86, 84, 82, 49]) : unpackR l = ([], 91, 0) := by unfold unpackR; rw [if_pos h]
theorem runpack_any (w : World) (sp : Option Addr) (cap : Nat) (l : List UInt8) (hl : Hid (LiesB w sp l)) (hn : l.length ≤ 4611686018427387904) :
    Calls Tryd.prog 21 #[.slice sp l.length cap] w fun e w' => ∃ v, e = .returned (.tuple #[v, .int .i64 (unpackR l).2.1, .int .i64 (unpackR l).2.2]) ∧ Hid (Ct w v (.slice none 0 0) (unpackR l).1 [] [] w') := by
  have C0 : Hid (Ct w (.slice none 0 0) (.slice none 0 0) [] [] [] w) := Ct.nil w
  obtain ⟨n, hn'⟩ : ∃ n, l.length = n := ⟨_, rfl⟩
  have hnn : Hid (l.length = n) := hn'
  obtain ⟨PS, hPS⟩ : ∃ x, unpackR l = x := ⟨_, rfl⟩
  have hPS' : Hid (unpackR l = PS) := hPS
  rw [hPS, hn']
  have ni : (n : Int) ≤ 4611686018427387904 := by omega
  by_cases h8 : n < 8
  · have fin : Hid (PS = ([], 91, 0)) := by show _ = _; rw [← hPS, unpack_bad1 l (.inl (by omega))]
    have q8 : decide ((n : Int) < 8) = true := by simp; omega
    clear h8 hPS hn hn'
    go_enter Tryd.func21, Tryd.ntmps21
    go_wp2
    go_ret3
    rw [fin.out]
    exact ⟨_, rfl, C0⟩

  have q8 : decide ((n : Int) < 8) = false := by simp; omega
  obtain ⟨b0, b1, b2, b3, b4, b5, b6, b7, r, hlr⟩ : ∃ b0 b1 b2 b3 b4 b5 b6 b7 r, l = b0 :: b1 :: b2 :: b3 :: b4 :: b5 :: b6 :: b7 :: r := by
    have h : 8 ≤ l.length := by omega
    match l, h with
    | a0 :: a1 :: a2 :: a3 :: a4 :: a5 :: a6 :: a7 :: t, _ => exact ⟨a0, a1, a2, a3, a4, a5, a6, a7, t, rfl⟩
  obtain ⟨g, o, rfl, _⟩ := hl.out 0 b0 (by rw [hlr]; rfl)
  have x0 : l[0]? = some b0 := by rw [hlr]; rfl
  have c0 : w.cell? ⟨g, o, none⟩ = some (.int .u8 (b0.toNat : Int)) := by
    obtain ⟨g', o', e', c⟩ := hl.out 0 b0 x0
    cases e'
    exact c
  have i0 : ∀ v, (Instr.indexAt 34 (.slice (some ⟨g, o, none⟩) n cap) (.int .i64 0)).run Tryd.prog v = .ok (.pointer (some ⟨g, o, none⟩)) v := fun v => idxB g o n cap 0 (by omega) v
  have u0 : (b0.toNat : Int) ≤ 255 := by have := UInt8.toNat_lt b0; omega
  have v0 : 0 ≤ (b0.toNat : Int) := by omega
  have x1 : l[1]? = some b1 := by rw [hlr]; rfl
  have c1 : w.cell? ⟨g, o + 1, none⟩ = some (.int .u8 (b1.toNat : Int)) := by
    obtain ⟨g', o', e', c⟩ := hl.out 1 b1 x1
    cases e'
    exact c
  have i1 : ∀ v, (Instr.indexAt 34 (.slice (some ⟨g, o, none⟩) n cap) (.int .i64 1)).run Tryd.prog v = .ok (.pointer (some ⟨g, o + 1, none⟩)) v := fun v => idxB g o n cap 1 (by omega) v
  have u1 : (b1.toNat : Int) ≤ 255 := by have := UInt8.toNat_lt b1; omega
  have v1 : 0 ≤ (b1.toNat : Int) := by omega
  have x2 : l[2]? = some b2 := by rw [hlr]; rfl
  have c2 : w.cell? ⟨g, o + 2, none⟩ = some (.int .u8 (b2.toNat : Int)) := by
    obtain ⟨g', o', e', c⟩ := hl.out 2 b2 x2
    cases e'
    exact c
  have i2 : ∀ v, (Instr.indexAt 34 (.slice (some ⟨g, o, none⟩) n cap) (.int .i64 2)).run Tryd.prog v = .ok (.pointer (some ⟨g, o + 2, none⟩)) v := fun v => idxB g o n cap 2 (by omega) v
  have u2 : (b2.toNat : Int) ≤ 255 := by have := UInt8.toNat_lt b2; omega
  have v2 : 0 ≤ (b2.toNat : Int) := by omega
  have x3 : l[3]? = some b3 := by rw [hlr]; rfl
  have c3 : w.cell? ⟨g, o + 3, none⟩ = some (.int .u8 (b3.toNat : Int)) := by
    obtain ⟨g', o', e', c⟩ := hl.out 3 b3 x3
    cases e'
    exact c
  have i3 : ∀ v, (Instr.indexAt 34 (.slice (some ⟨g, o, none⟩) n cap) (.int .i64 3)).run Tryd.prog v = .ok (.pointer (some ⟨g, o + 3, none⟩)) v := fun v => idxB g o n cap 3 (by omega) v
  have u3 : (b3.toNat : Int) ≤ 255 := by have := UInt8.toNat_lt b3; omega
  have v3 : 0 ≤ (b3.toNat : Int) := by omega
  have x4 : l[4]? = some b4 := by rw [hlr]; rfl
  have c4 : w.cell? ⟨g, o + 4, none⟩ = some (.int .u8 (b4.toNat : Int)) := by
    obtain ⟨g', o', e', c⟩ := hl.out 4 b4 x4
    cases e'
    exact c
  have i4 : ∀ v, (Instr.indexAt 34 (.slice (some ⟨g, o, none⟩) n cap) (.int .i64 4)).run Tryd.prog v = .ok (.pointer (some ⟨g, o + 4, none⟩)) v := fun v => idxB g o n cap 4 (by omega) v
  have u4 : (b4.toNat : Int) ≤ 255 := by have := UInt8.toNat_lt b4; omega
  have v4 : 0 ≤ (b4.toNat : Int) := by omega
  have x5 : l[5]? = some b5 := by rw [hlr]; rfl
  have c5 : w.cell? ⟨g, o + 5, none⟩ = some (.int .u8 (b5.toNat : Int)) := by
    obtain ⟨g', o', e', c⟩ := hl.out 5 b5 x5
    cases e'
    exact c
  have i5 : ∀ v, (Instr.indexAt 34 (.slice (some ⟨g, o, none⟩) n cap) (.int .i64 5)).run Tryd.prog v = .ok (.pointer (some ⟨g, o + 5, none⟩)) v := fun v => idxB g o n cap 5 (by omega) v
  have u5 : (b5.toNat : Int) ≤ 255 := by have := UInt8.toNat_lt b5; omega
  have v5 : 0 ≤ (b5.toNat : Int) := by omega
  have x6 : l[6]? = some b6 := by rw [hlr]; rfl
  have c6 : w.cell? ⟨g, o + 6, none⟩ = some (.int .u8 (b6.toNat : Int)) := by
    obtain ⟨g', o', e', c⟩ := hl.out 6 b6 x6
    cases e'
    exact c
  have i6 : ∀ v, (Instr.indexAt 34 (.slice (some ⟨g, o, none⟩) n cap) (.int .i64 6)).run Tryd.prog v = .ok (.pointer (some ⟨g, o + 6, none⟩)) v := fun v => idxB g o n cap 6 (by omega) v
  have u6 : (b6.toNat : Int) ≤ 255 := by have := UInt8.toNat_lt b6; omega
  have v6 : 0 ≤ (b6.toNat : Int) := by omega
  have x7 : l[7]? = some b7 := by rw [hlr]; rfl
  have c7 : w.cell? ⟨g, o + 7, none⟩ = some (.int .u8 (b7.toNat : Int)) := by
    obtain ⟨g', o', e', c⟩ := hl.out 7 b7 x7
    cases e'
    exact c
  have i7 : ∀ v, (Instr.indexAt 34 (.slice (some ⟨g, o, none⟩) n cap) (.int .i64 7)).run Tryd.prog v = .ok (.pointer (some ⟨g, o + 7, none⟩)) v := fun v => idxB g o n cap 7 (by omega) v
  have u7 : (b7.toNat : Int) ≤ 255 := by have := UInt8.toNat_lt b7; omega
  have v7 : 0 ≤ (b7.toNat : Int) := by omega
  have htk : Hid (l.take 4 = [b0, b1, b2, b3]) := by show _ = _; rw [hlr]; rfl
  have hmany : Hid (manyP l = (b4.toNat : Int) + 256 * b5.toNat + 65536 * b6.toNat + 16777216 * b7.toNat) := by show _ = _; rw [hlr]; rfl
  replace hlr : Hid _ := hlr
  replace x0 : Hid _ := x0
  replace x1 : Hid _ := x1
  replace x2 : Hid _ := x2
  replace x3 : Hid _ := x3
  replace x4 : Hid _ := x4
  replace x5 : Hid _ := x5
  replace x6 : Hid _ := x6
  replace x7 : Hid _ := x7
  obtain ⟨B0, hB0⟩ : ∃ x : Int, (b0.toNat : Int) = x := ⟨_, rfl⟩
  rw [hB0] at c0 u0 v0
  obtain ⟨B1, hB1⟩ : ∃ x : Int, (b1.toNat : Int) = x := ⟨_, rfl⟩
  rw [hB1] at c1 u1 v1
  obtain ⟨B2, hB2⟩ : ∃ x : Int, (b2.toNat : Int) = x := ⟨_, rfl⟩
  rw [hB2] at c2 u2 v2
  obtain ⟨B3, hB3⟩ : ∃ x : Int, (b3.toNat : Int) = x := ⟨_, rfl⟩
  rw [hB3] at c3 u3 v3
  obtain ⟨B4, hB4⟩ : ∃ x : Int, (b4.toNat : Int) = x := ⟨_, rfl⟩
  rw [hB4] at c4 u4 v4
  obtain ⟨B5, hB5⟩ : ∃ x : Int, (b5.toNat : Int) = x := ⟨_, rfl⟩
  rw [hB5] at c5 u5 v5
  obtain ⟨B6, hB6⟩ : ∃ x : Int, (b6.toNat : Int) = x := ⟨_, rfl⟩
  rw [hB6] at c6 u6 v6
  obtain ⟨B7, hB7⟩ : ∃ x : Int, (b7.toNat : Int) = x := ⟨_, rfl⟩
  rw [hB7] at c7 u7 v7
  rw [hB4, hB5, hB6, hB7] at hmany
  by_cases e0 : ¬ B0 = 86
  · have fin : Hid (PS = ([], 91, 0)) := by
      show _ = _
      rw [← hPS, unpack_bad1 l (.inr (by rw [htk.out]; intro h; simp only [List.cons.injEq, and_true] at h; refine e0 ?_; rw [← hB0, h.1]; rfl))]
    have qe0 : (B0 != 86) = true := by simpa using e0
    clear e0 hPS hn hn' h8
    go_enter Tryd.func21, Tryd.ntmps21
    go_wp2
    go_ret3
    rw [fin.out]
    exact ⟨_, rfl, C0⟩
  replace e0 : B0 = 86 := Decidable.of_not_not e0
  have qe0 : (B0 != 86) = false := by simpa using e0
  by_cases e1 : ¬ B1 = 84
  · have fin : Hid (PS = ([], 91, 0)) := by
      show _ = _
      rw [← hPS, unpack_bad1 l (.inr (by rw [htk.out]; intro h; simp only [List.cons.injEq, and_true] at h; refine e1 ?_; rw [← hB1, h.2.1]; rfl))]
    have qe1 : (B1 != 84) = true := by simpa using e1
    clear e1 hPS hn hn' h8
    go_enter Tryd.func21, Tryd.ntmps21
    go_wp2
    go_ret3
    rw [fin.out]
    exact ⟨_, rfl, C0⟩
  replace e1 : B1 = 84 := Decidable.of_not_not e1
  have qe1 : (B1 != 84) = false := by simpa using e1
  by_cases e2 : ¬ B2 = 82
  · have fin : Hid (PS = ([], 91, 0)) := by
      show _ = _
      rw [← hPS, unpack_bad1 l (.inr (by rw [htk.out]; intro h; simp only [List.cons.injEq, and_true] at h; refine e2 ?_; rw [← hB2, h.2.2.1]; rfl))]
    have qe2 : (B2 != 82) = true := by simpa using e2
    clear e2 hPS hn hn' h8
    go_enter Tryd.func21, Tryd.ntmps21
    go_wp2
    go_ret3
    rw [fin.out]
    exact ⟨_, rfl, C0⟩
  replace e2 : B2 = 82 := Decidable.of_not_not e2
  have qe2 : (B2 != 82) = false := by simpa using e2
  by_cases e3 : ¬ B3 = 49
  · have fin : Hid (PS = ([], 91, 0)) := by
      show _ = _
      rw [← hPS, unpack_bad1 l (.inr (by rw [htk.out]; intro h; simp only [List.cons.injEq, and_true] at h; refine e3 ?_; rw [← hB3, h.2.2.2]; rfl))]
    have qe3 : (B3 != 49) = true := by simpa using e3
    clear e3 hPS hn hn' h8
    go_enter Tryd.func21, Tryd.ntmps21
    go_wp2
    go_ret3
    rw [fin.out]
    exact ⟨_, rfl, C0⟩
  replace e3 : B3 = 49 := Decidable.of_not_not e3
  have qe3 : (B3 != 49) = false := by simpa using e3
  have hbeg : ¬ (l.length < 8 ∨ l.take 4 ≠ [86, 84, 82, 49]) := by
    rw [htk.out]
    rintro (h | h)
    · omega
    · refine h ?_
      have z0 : b0 = 86 := UInt8.toNat_inj.1 (by show b0.toNat = 86; omega)
      have z1 : b1 = 84 := UInt8.toNat_inj.1 (by show b1.toNat = 84; omega)
      have z2 : b2 = 82 := UInt8.toNat_inj.1 (by show b2.toNat = 82; omega)
      have z3 : b3 = 49 := UInt8.toNat_inj.1 (by show b3.toNat = 49; omega)
      rw [z0, z1, z2, z3]
  obtain ⟨N, hN⟩ : ∃ x, B4 + 256 * B5 + 65536 * B6 + 16777216 * B7 = x := ⟨_, rfl⟩
  rw [hN] at hmany
  have hPS2 : Hid (PS = if 4194304 < N then ([], 91, 0) else unpackGo N.toNat 8 0 (l.drop 8) []) := by
    show _ = _
    rw [← hPS]
    unfold unpackR
    rw [if_neg hbeg, hmany.out]
  have N0 : 0 ≤ N := by omega
  have N1 : N ≤ 4294967295 := by omega
  have h8' : Hid (8 ≤ n) := by show 8 ≤ n; omega
  clear hbeg hPS hn hn' h8 e0 e1 e2 e3 hB0 hB1 hB2 hB3 hB4 hB5 hB6 hB7
  by_cases hbig : 4194304 < N
  · have qN : decide (4194304 < N) = true := by simpa using hbig
    have fin : Hid (PS = ([], 91, 0)) := by show _ = _; rw [hPS2.out, if_pos hbig]
    clear hbig
    go_enter Tryd.func21, Tryd.ntmps21
    go_wp2
    go_quiet (fail)
    go_wp2
    go_ret3
    rw [fin.out]
    exact ⟨_, rfl, C0.out.below ⟨rfl, rfl, rfl, Nat.le_refl _, fun _ _ => rfl⟩⟩
  have qN : decide (4194304 < N) = false := by simpa using hbig
  have N4 : N ≤ 4194304 := by omega
  obtain ⟨PG, hPG⟩ : ∃ x, unpackGo N.toNat 8 0 (l.drop 8) [] = x := ⟨_, rfl⟩
  have hPG' : Hid (unpackGo N.toNat 8 0 (l.drop 8) [] = PG ∧ PS = PG) := ⟨hPG, by rw [hPS2.out, if_neg hbig, hPG]⟩
  have zz := zeroV_R
  have hSp : Hid (∀ (y : World) (a : Nat) (next : Int), Below w.heap.size w y → a ≤ n → 0 ≤ next → next ≤ 65535 → Calls Tryd.prog 48 #[.slice (some ⟨g, o, none⟩) n cap, .int .i64 (a : Int), .int .u16 next] y fun e w' => ∃ s', e = .returned (.tuple #[.agg (rcC s'), .int .i64 (oneK (oneR (l.drop a) next))]) ∧ Hid ((∀ r k, oneR (l.drop a) next = some (r, k) → s' = r) ∧ Below y.heap.size y w')) := fun y a next hy ha h0 h1 => by
    have := rrec1_any y (some ⟨g, o, none⟩) cap l a next (hl.out.below hy) (by have := hnn.out; omega) (by have := hnn.out; omega) h0 h1
    rw [hnn.out] at this
    exact this
  clear hbig hPG
  go_enter Tryd.func21, Tryd.ntmps21
  go_wp2
  go_quiet (fail)
  go_wp2
  go_loopw [6, 7, 8, 9] (fun p q u t wz => ∃ (i a : Nat) (next : Int) (va : Value) (O : List Rc) (y : World), y = wz ∧ va = p ∧ q = .int .i64 (a : Int) ∧ u = .int .u16 next ∧ t = .int .i64 (i : Int) ∧ Hid ((i : Int) ≤ N ∧ a ≤ n ∧ O.length ≤ i ∧ 0 ≤ next ∧ next ≤ 65535 ∧ unpackGo (N.toNat - i) a next (l.drop a) O = PG) ∧ Hid (Ct w va (.slice none 0 0) O [] [] y)) (fun _ _ _ t _ => (N - intOf t).toNat)
  case atStart => exact ⟨0, 8, 0, _, [], _, rfl, rfl, rfl, rfl, rfl, ⟨by omega, h8'.out, Nat.le_refl _, by decide, by decide, by rw [Nat.sub_zero]; exact hPG'.out.1⟩, C0.out.below ⟨rfl, rfl, rfl, Nat.le_refl _, fun _ _ => rfl⟩⟩
  case round =>
    obtain ⟨i, a, next, va, O, y, rfl, rfl, rfl, rfl, rfl, J, K⟩ := hrel
    by_cases hlt : (i : Int) < N
    · have hcall := hSp.out y a next K.out.fm.low J.out.2.1 J.out.2.2.2.1 J.out.2.2.2.2.1
      have hlt' : Hid ((i : Int) < N) := hlt
      have hOl : Hid (O.length ≤ 4194304) := by have := J.out.2.2.1; show _ ≤ _; omega
      have aN : (a : Int) ≤ n := by have := J.out.2.1; omega
      have hstep : Hid (unpackGo (N.toNat - i) a next (l.drop a) O = match oneR (l.drop a) next with | none => ([], 91, (a : Int)) | some (r, k) => unpackGo (N.toNat - (i + 1)) (a + k) ((r.ad + 1) % 65536) ((l.drop a).drop k) (O ++ [r])) := by
        show _ = _
        rw [show N.toNat - i = (N.toNat - (i + 1)) + 1 by omega]
        rfl
      have jn := J.out.2.2.2
      have hone : ∀ r k, oneR (l.drop a) next = some (r, k) → Rr r ∧ 2 ≤ k ∧ k ≤ 5 ∧ a + k ≤ n := fun r k h => by
        obtain ⟨_, _, h3, h4, h5, h6⟩ := one_some jn.1 jn.2.1 h
        rw [List.length_drop, hnn.out] at h4
        exact ⟨h3, h5, h6, by omega⟩
      replace hone : Hid _ := hone
      clear jn
      cases hso : oneR (l.drop a) next with
      | none =>
        rw [hso] at hcall
        have fin : Hid (PS = ([], 91, (a : Int))) := by
          have h1 := J.out.2.2.2.2.2
          rw [hstep.out, hso] at h1
          show PS = _
          rw [hPG'.out.2, ← h1]
        clear hso
        simp only [oneK] at hcall
        go_wp2_with (first
          | (go_at_call 48; refine hcall.mono ?_; rintro e y8 ⟨s', rfl, H8⟩; have K8 : Hid (Ct w va (.slice none 0 0) O [] [] y8) := K.out.below H8.out.2; clear H8)
          | ((with_reducible refine gen_world (y8.alloc (.cells (rcC zR) 45)) (Ct w va (.slice none 0 0) O [] [(y8.heap.size, rcC zR, 45)]) ?_ ?_); exact K8.out.new _ _; intro y9 K9)
          | ((with_reducible refine at_st rtR y8.heap.size (rcC zR) (rcC s') ?_ ?_ ?_ ?_ (.tmp 10) (.tmp 73) ?_ ?_ ?_ ?_ ?_); exact K9.out.fm.bx 0 _ _ _ rfl; rfl; rfl; exact rcC_one _; rfl; rfl; rfl; rfl; intro y10 hw10; have K10 : Hid (Ct w va (.slice none 0 0) O [] [(y8.heap.size, rcC s', 45)] y10) := K9.out.put 0 _ _ _ _ rfl hw10.out))
        go_ret3
        rw [fin.out]
        exact ⟨_, rfl, ((Ct.nil w).below K10.out.fm.low)⟩
      | some x =>
        obtain ⟨s, k⟩ := x
        obtain ⟨gs, k2, k5, hak⟩ := hone.out s k hso
        rw [hso] at hcall
        have J3 : Hid (unpackGo (N.toNat - (i + 1)) (a + k) ((s.ad + 1) % 65536) (l.drop (a + k)) (O ++ [s]) = PG) := by
          have h1 := J.out.2.2.2.2.2
          rw [hstep.out, hso] at h1
          simp only [List.drop_drop] at h1
          exact h1
        have ad0 := gs.a0
        have ad1 := gs.a1
        obtain ⟨ad, had⟩ : ∃ x, s.ad = x := ⟨_, rfl⟩
        rw [had] at J3 ad0 ad1
        replace had : Hid _ := had
        replace gs : Hid _ := gs
        clear hso hone hstep
        simp only [oneK] at hcall
        have kq : ((k : Int) == 0) = false := by simp; omega
        have ki : (k : Int) ≤ 5 := by omega
        have k0 : 0 ≤ (k : Int) := by omega
        have hak' : Hid (a + k ≤ n) := hak
        have hw16 : IntKind.u16.wrap (ad + 1) = (ad + 1) % 65536 := by rw [IntKind.wrap_u16]
        go_wp2_with (first
          | (go_at_call 48; refine hcall.mono ?_; rintro e y8 ⟨s', rfl, H8⟩; have K8 : Hid (Ct w va (.slice none 0 0) O [] [] y8) := K.out.below H8.out.2; have es := H8.out.1 _ _ rfl; subst es; clear H8)
          | ((with_reducible refine gen_world (y8.alloc (.cells (rcC zR) 45)) (Ct w va (.slice none 0 0) O [] [(y8.heap.size, rcC zR, 45)]) ?_ ?_); exact K8.out.new _ _; intro y9 K9)
          | ((with_reducible refine at_st rtR y8.heap.size (rcC zR) (rcC s') ?_ ?_ ?_ ?_ (.tmp 10) (.tmp 73) ?_ ?_ ?_ ?_ ?_); exact K9.out.fm.bx 0 _ _ _ rfl; rfl; rfl; exact rcC_one _; rfl; rfl; rfl; rfl; intro y10 hw10; have K10 : Hid (Ct w va (.slice none 0 0) O [] [(y8.heap.size, rcC s', 45)] y10) := K9.out.put 0 _ _ _ _ rfl hw10.out)
          | ((with_reducible refine at_load rtR y8.heap.size (rcC s') ?_ ?_ (.tmp 10) ?_ ?_ ?_ ?_); exact K10.out.fm.bx 0 _ _ _ rfl; rfl; kernel_rfl; rfl; rfl)
          | ((with_reducible refine at_bsR s' (.tmp 79) ?_ ?_ ?_ ?_); rfl; rfl; rfl)
          | (at_builtin; refine at_app rfl (.tmp 78) (.tmp 80) rfl w.heap.size va O rfl (K10.out.oa.alloc _) y10.heap.size s' rfl (one_bx _ _ _) ?_ ?_ ?_; (have := hOl.out; omega); (have := K10.out.fm.low.size; simp; omega); intro va' y12 H12; have K12 : Hid (Ct w va' (.slice none 0 0) (O ++ [s']) [] [(y8.heap.size, rcC s', 45)] y12) := K10.out.appA H12.out; clear H12; have d12 := (K12.out.fm.bx 0 _ _ _ rfl).c 1 _ (rcC_ad s'); rw [had.out] at d12))
        go_roundw
        case rel => exact ⟨i + 1, a + k, _, _, _, _, rfl, rfl, by simp, rfl, by simp, ⟨by have := hlt'.out; omega, hak'.out, by have := J.out.2.2.1; simp; omega, by omega, by omega, J3.out⟩, K12.out.pre (bs := [])⟩
        case measure => have := hlt'.out; simp [intOf]; omega
    · have hin : (i : Int) = N := by have := J.out.1; omega
      have J2 : Hid (PG = if l.drop a = [] then (O, 0, 0) else ([], 91, (a : Int))) := by
        have h1 := J.out.2.2.2.2.2
        rw [show N.toNat - i = 0 by omega] at h1
        show PG = _
        rw [← h1]
        rfl
      have qi : decide ((i : Int) < N) = false := by simpa using hlt
      clear hlt hin
      by_cases hend : a < n
      · have qa : decide ((a : Int) < n) = true := by simp; omega
        have fin : Hid (PS = ([], 91, (a : Int))) := by
          show PS = _
          rw [hPG'.out.2, J2.out, if_neg]
          intro h
          have := congrArg List.length h
          rw [List.length_drop, hnn.out] at this
          simp at this
          omega
        go_wp2
        go_ret3
        rw [fin.out]
        exact ⟨_, rfl, (Ct.nil w).below K.out.fm.low⟩
      · have qa : decide ((a : Int) < n) = false := by simp; omega
        have fin : Hid (PS = (O, 0, 0)) := by
          show PS = _
          rw [hPG'.out.2, J2.out, if_pos (List.drop_eq_nil_of_le (by rw [hnn.out]; omega))]
        go_wp2
        go_ret3
        rw [fin.out]
        exact ⟨_, rfl, K.out⟩
end Go.Proofs.YtoajmicdphffnaaDoor
