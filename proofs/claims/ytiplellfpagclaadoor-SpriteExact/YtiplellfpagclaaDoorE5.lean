/- A text read: the document's. -/
import Derived.Test.YtiplellfpagclaaDoorE4
namespace Go.Proofs.YtiplellfpagclaaDoor
open Go Go.RowKit Go.Shelf
set_option linter.unusedVariables false
set_option maxHeartbeats 1000000
set_option maxRecDepth 20000

theorem rread_any (w : World) (s : ByteArray) :
    Calls Tryd.prog 16 #[.string s] w fun e w' => ∃ v, e = .returned (.tuple #[v, .int .i64 (readA (strL s)).2]) ∧ Hid (KL 5 1 cB w v (readA (strL s)).1 w') := by
  have hE : Hid (∀ z, Below w.heap.size w z → KL 5 1 cB w (.slice none 0 0) ([] : List UInt8) z) := fun z hz => (KL.nil w).below hz
  have hmk := mk256
  by_cases h1 : (strL s).length = 2080
  · have h1' : Hid ((strL s).length = 2080) := h1
    have hsz : s.size = 2080 := h1
    have q1 : ((s.size : Int) != 2080) = false := by rw [hsz]; rfl
    have hz0 : Hid (rowB (readS (strL s) 0) = rowB (List.replicate 256 0)) := rfl
    obtain ⟨Z, hZ⟩ : ∃ Z, rowB (List.replicate 256 0) = Z := ⟨_, rfl⟩
    rw [hZ] at hmk hz0
    have K0 : Hid (OwnL 5 1 cB w.heap.size (w.alloc (.cells Z 5)) (.slice (some ⟨w.heap.size, 0, none⟩) 256 256) (readS (strL s) 0) ∧ Below w.heap.size w (w.alloc (.cells Z 5))) := by
      refine ⟨?_, below1 w _⟩
      have := own_of_bx (B := w.heap.size) (w := w.alloc (.cells Z 5)) (g := w.heap.size) (l := readS (strL s) 0) (by rw [hz0.out]; exact bx1 w _ _) (Nat.le_refl _) (by rw [read_len]; decide)
      rw [read_len] at this
      exact this
    have hA : readA (strL s) = if showS (readS (strL s) 2048) 2048 = strL s then (readS (strL s) 2048, 0) else ([], 1) := by
      unfold readA
      by_cases h2 : showS (readS (strL s) 2048) 2048 = strL s
      · rw [if_pos ⟨h1, h2⟩, if_pos h2]
      · rw [if_neg (fun h => h2 h.2), if_neg h2]
    rw [hA]
    clear hA
    have hsh : Hid (∀ y, OwnL 5 1 cB w.heap.size y (.slice (some ⟨w.heap.size, 0, none⟩) 256 256) (readS (strL s) 2048) → Calls Tryd.prog 14 #[.slice (some ⟨w.heap.size, 0, none⟩) 256 256] y fun e w' => e = .returned (.tuple #[.string (strB (showS (readS (strL s) 2048) 2048)), .int .i64 0]) ∧ Below y.heap.size y w') := fun y hy => by
      obtain ⟨sp, cp, e, hl, _⟩ := OwnL.open kByte.len hy
      rw [read_len] at e
      injection e with e1 e2 e3
      subst e1
      have := rshow_any y (some ⟨w.heap.size, 0, none⟩) 256 _ hl
      rw [read_len] at this
      unfold showA at this
      rw [if_pos (read_len _ _)] at this
      exact this
    have hst : Hid ((strB (showS (readS (strL s) 2048) 2048)).toList = showS (readS (strL s) 2048) 2048) := by
      show _ = _
      rw [toList_eq]
      simp [strB]
    have hTu : Hid (∀ (u : World) (i j : Nat), i < 64 → j < 32 → OwnL 5 1 cB w.heap.size u (.slice (some ⟨w.heap.size, 0, none⟩) 256 256) (readS (strL s) (64 * j + i)) → Calls Tryd.prog 22 #[.slice (some ⟨w.heap.size, 0, none⟩) 256 256, .int .i64 (i : Int), .int .i64 (j : Int)] u fun e w' => e = .returned (.tuple #[]) ∧ Hid (OwnL 5 1 cB w.heap.size w' (.slice (some ⟨w.heap.size, 0, none⟩) 256 256) (flipP (readS (strL s) (64 * j + i)) (64 * j + i)) ∧ Below w.heap.size u w')) := fun u i j hi hj hu => turn_any u w.heap.size w.heap.size 256 _ i j (read_len _ _) hi hj hu
    obtain ⟨E, hEE⟩ : ∃ E, (if showS (readS (strL s) 2048) 2048 = strL s then (readS (strL s) 2048, (0 : Int)) else ([], 1)) = E := ⟨_, rfl⟩
    rw [hEE]
    replace hEE : Hid ((if showS (readS (strL s) 2048) 2048 = strL s then (readS (strL s) 2048, (0 : Int)) else ([], 1)) = E) := hEE
    have hsz' : Hid (s.size = 2080) := hsz
    clear h1 hsz hZ hz0
    go_enter Tryd.func16, Tryd.ntmps16
    go_wp2
    clear q1 hmk
    have hwg : ∃ g, w.heap.size = g := ⟨_, rfl⟩
    obtain ⟨g, hg⟩ := hwg
    have hgw : Hid (w.heap.size = g) := hg
    rw [hg] at hE K0 hsh hTu ⊢
    clear hg
    go_loopw [5] (fun jv wz => ∃ (j : Nat) (u : World), u = wz ∧ j ≤ 32 ∧ jv = .int .i64 (j : Int) ∧ Hid (OwnL 5 1 cB g u (.slice (some ⟨g, 0, none⟩) 256 256) (readS (strL s) (64 * j)) ∧ Below g w u)) (fun jv _ => (32 - intOf jv).toNat)
    case atStart => exact ⟨0, _, rfl, by omega, rfl, K0⟩
    case round =>
      obtain ⟨j, u, rfl, hj, rfl, K⟩ := hrel
      clear K0
      by_cases hlt : j < 32
      · have hji : (j : Int) < 32 := by omega
        have hlt' : Hid (j < 32) := hlt
        clear hj hlt
        go_wp2
        go_loopw [6] (fun iv wz => ∃ (i : Nat) (v : World), v = wz ∧ i ≤ 64 ∧ iv = .int .i64 (i : Int) ∧ Hid (OwnL 5 1 cB g v (.slice (some ⟨g, 0, none⟩) 256 256) (readS (strL s) (64 * j + i)) ∧ Below g w v)) (fun iv _ => (64 - intOf iv).toNat)
        case atStart => exact ⟨0, u, rfl, by omega, rfl, K⟩
        case round =>
          obtain ⟨i, v, rfl, hi, rfl, L⟩ := hrel
          clear K
          by_cases hi64 : i < 64
          · have hii : (i : Int) < 64 := by omega
            have hj := hlt'.out
            have hss := hsz'.out
            have hb : (65 : Int) * (j : Int) + (i : Int) < (s.size : Int) := by omega
            have hbn : 65 * j + i < s.size := by omega
            have hcT := hTu.out v i j hi64 hj L.out.1
            have hnx : Hid (readS (strL s) (64 * j + (i + 1)) = if (s[65 * j + i]'hbn == 35) then flipP (readS (strL s) (64 * j + i)) (64 * j + i) else readS (strL s) (64 * j + i)) := by
              show (if hashS (strL s) (64 * j + i) then flipP (readS (strL s) (64 * j + i)) (64 * j + i) else readS (strL s) (64 * j + i)) = _
              have e : hashS (strL s) (64 * j + i) = (s[65 * j + i]'hbn == 35) := by
                unfold hashS
                rw [show 65 * ((64 * j + i) / 64) + (64 * j + i) % 64 = 65 * j + i by omega]
                have : 65 * j + i < s.data.toList.length := hbn
                simp only [strL, List.getD, List.getElem?_eq_getElem this, Option.getD_some]
                rfl
              rw [e]
            have fin : Hid ((((s[65 * j + i]'hbn).toNat : Int) == 35) = (s[65 * j + i]'hbn == 35)) := by
              show _ = _
              generalize s[65 * j + i]'hbn = C
              by_cases h : C = 35
              · subst h; rfl
              · rw [beq_eq_false_iff_ne.2 h, beq_eq_false_iff_ne.2 fun e => h (UInt8.toNat_inj.1 (show C.toNat = 35 by omega))]
            have hi' : Hid (i < 64) := hi64
            obtain ⟨C, hC⟩ : ∃ C, s[65 * j + i]'hbn = C := ⟨_, rfl⟩
            have ixs : ∀ v, (Instr.index 9 (.string s) (.int .i64 (65 * (j : Int) + (i : Int)))).run Tryd.prog v = .ok (.int .u8 (C.toNat : Int)) v := fun v => by
              rw [run_index_string v _ s _ _ Tryd.underlying9, dif_pos ⟨by omega, hb⟩, ← hC]
              congr 3
            rw [hC] at hnx fin
            obtain ⟨R1, hR1⟩ : ∃ R, readS (strL s) (64 * j + i) = R := ⟨_, rfl⟩
            obtain ⟨N, hN⟩ : ∃ N, 64 * j + i = N := ⟨_, rfl⟩
            rw [hR1] at hcT hnx L
            rw [hN] at hcT hnx
            obtain ⟨R2, hR2⟩ : ∃ R, flipP R1 N = R := ⟨_, rfl⟩
            rw [hR2] at hcT hnx
            obtain ⟨cc, hcc⟩ : ∃ c, (C == 35) = c := ⟨_, rfl⟩
            have q3 := fin.out
            rw [hcc] at q3 hnx
            obtain ⟨ct, hct⟩ : ∃ c, C.toNat = c := ⟨_, rfl⟩
            rw [hct] at q3 ixs
            clear hi hi64 hj hss hR1 hN hR2 hC hcc hct hb hbn fin
            cases cc
            · replace hnx : Hid (readS (strL s) (64 * j + (i + 1)) = R1) := hnx
              clear hcT
              go_wp2
              go_roundw
              case rel => exact ⟨i + 1, v, rfl, hi'.out, by simp, ⟨by rw [hnx.out]; exact L.out.1, L.out.2⟩⟩
              case measure => have := hi'.out; simp [intOf]; omega
            · replace hnx : Hid (readS (strL s) (64 * j + (i + 1)) = R2) := hnx
              go_wp2_with (go_at_call 22; refine hcT.mono ?_; rintro e v2 ⟨rfl, H2⟩)
              go_roundw
              case rel => exact ⟨i + 1, v2, rfl, hi'.out, by simp, ⟨by rw [hnx.out]; exact H2.out.1, L.out.2.trans H2.out.2⟩⟩
              case measure => have := hi'.out; simp [intOf]; omega
          · have hie : i = 64 := by omega
            subst hie
            clear hi hi64
            go_wp2
            go_roundw
            case rel => exact ⟨j + 1, v, rfl, hlt'.out, by simp, L⟩
            case measure => have := hlt'.out; simp [intOf]; omega
      · have hje : j = 32 := by omega
        subst hje
        have K' : Hid (OwnL 5 1 cB g u (.slice (some ⟨g, 0, none⟩) 256 256) (readS (strL s) 2048) ∧ Below g w u) := K
        have hcS := hsh.out u K'.out.1
        clear hj hlt K hTu hsh
        obtain ⟨R, hR⟩ : ∃ R, readS (strL s) 2048 = R := ⟨_, rfl⟩
        rw [hR] at K' hcS hst hEE
        obtain ⟨T, hT⟩ : ∃ T, strB (showS R 2048) = T := ⟨_, rfl⟩
        rw [hT] at hcS hst
        clear hR hT
        by_cases h2 : showS R 2048 = strL s
        · have q2 : (T.toList == s.toList) = true := by rw [hst.out, h2, toList_eq]; simp [strL]
          have hE2 := hEE.out
          rw [if_pos h2] at hE2
          subst hE2
          clear h2 hst
          go_wp2_with (go_at_call 14; refine hcS.mono ?_; rintro e u2 ⟨rfl, H2⟩)
          go_ret2
          exact ⟨_, rfl, ⟨by rw [hgw.out]; exact K'.out.1.below H2, by rw [hgw.out]; exact K'.out.2.trans (H2.mono (by rw [← hgw.out]; exact K'.out.2.size))⟩⟩
        · have q2 : (T.toList == s.toList) = false := by
            rw [hst.out, toList_eq]
            exact beq_eq_false_iff_ne.2 h2
          have hE2 := hEE.out
          rw [if_neg h2] at hE2
          subst hE2
          clear h2 hst
          go_wp2_with (go_at_call 14; refine hcS.mono ?_; rintro e u2 ⟨rfl, H2⟩)
          go_ret2
          exact ⟨_, rfl, hE.out _ (K'.out.2.trans (H2.mono (by rw [← hgw.out]; exact K'.out.2.size)))⟩
  · have hA : readA (strL s) = ([], 1) := by unfold readA; rw [if_neg (fun h => h1 h.1)]
    rw [hA]
    dsimp only
    have q1 : ((s.size : Int) != 2080) = true := by
      have : s.size ≠ 2080 := h1
      simp; omega
    clear h1 hA
    go_enter Tryd.func16, Tryd.ntmps16
    go_wp2
    go_ret2
    exact ⟨_, rfl, hE.out _ (Below.refl _ _)⟩
end Go.Proofs.YtiplellfpagclaaDoor
