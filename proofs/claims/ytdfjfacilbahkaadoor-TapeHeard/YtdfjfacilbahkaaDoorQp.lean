/- What is heard of a script: the program's. -/
import Derived.Test.YtdfjfacilbahkaaDoorUk
import Derived.Test.YtdfjfacilbahkaaDoorQm
namespace Go.Proofs.YtdfjfacilbahkaaDoor
open Go Go.RowKit
set_option linter.unusedVariables false
set_option maxHeartbeats 4000000
set_option maxRecDepth 20000

theorem pheard_any (w : World) (sp : Option Addr) (cap : Nat) (l : List Sn) (hl : Hid (LiesS w sp l)) (hn : l.length ≤ 9223372036854775807) :
    Calls Tryd.prog 20 #[.slice sp l.length cap] w fun e w' => ∃ v, e = .returned (.tuple #[v, .int .i64 (heardW l).2]) ∧ Hid (KL 49 2 c2 w v (heardW l).1 w') := by
  have hC := check_any w sp cap l hl hn
  unfold heardW
  obtain ⟨n, hn'⟩ : ∃ n, l.length = n := ⟨_, rfl⟩
  obtain ⟨E, hE⟩ : ∃ x, checkS l = x := ⟨_, rfl⟩
  rw [hn', hE] at hC
  rw [hn', hE]
  have ni : (n : Int) ≤ 9223372036854775807 := by omega
  by_cases h0 : ¬ E = 0
  · rw [if_neg h0]
    have qe : (E == 0) = false := by simpa using h0
    clear h0 hE hn hn'
    go_enter Tryd.func20, Tryd.ntmps20
    go_wp2_with (go_at_call 31; refine hC.mono ?_; rintro e x ⟨rfl, hx⟩; replace hx : Hid _ := hx)
    go_ret2
    exact ⟨.slice none 0 0, rfl, (KL.nil x).base hx.out⟩
  obtain rfl : E = 0 := Decidable.not_not.1 h0
  rw [if_pos rfl]
  have hok : Hid (n ≤ 4096 ∧ InM 1048576 l ∧ sumC l ≤ 4194304) := by
    unfold checkS at hE
    rw [hn'] at hE
    split at hE
    · cases hE
    · split at hE
      · rename_i h1 h2
        exact ⟨by omega, (inB_iff l).1 h2.1, h2.2⟩
      · cases hE
  have n4 : (n : Int) ≤ 4096 := by have := hok.out.1; omega
  have hl' : Hid (l.length = n) := hn'
  obtain ⟨H, hH⟩ : ∃ x, hearW (rowsH l) = x := ⟨_, rfl⟩
  have hH' : Hid (hearGo (rowsH (l.drop 0)) false [] = H) := hH
  rw [hH]
  have hb1 : Hid (∀ x, Tryd.prog.built 49 [(0, .int .i64 x)] = some (c2 (x, 0)).toArray) := builtWa1
  have zz := zeroVSp
  obtain ⟨Z, hZ⟩ : ∃ Z, spC ⟨0, ⟨0, false, false, false, false, false, false, false, 0⟩⟩ = Z := ⟨_, rfl⟩
  have hZ1 : Hid (Z.size = 10) := by rw [← hZ]; exact rfl
  rw [hZ] at zz
  clear hE hn hn' hH h0 hZ
  go_enter Tryd.func20, Tryd.ntmps20
  go_wp2_with (go_at_call 31; refine hC.mono ?_; rintro e w1 ⟨rfl, hw1⟩; replace hw1 : Hid _ := hw1)
  go_loopw [5, 16] (fun o i wz => ∃ (k : Nat) (hi : Bool) (v : Value) (out : List (Int × Int)) (S : Int) (y : World), y = wz ∧ v = o ∧ i = .int .i64 (k : Int) ∧ Hid (k ≤ n ∧ (hi = true → 0 < out.length) ∧ out.length ≤ k ∧ (∀ p ∈ out, inS S p) ∧ 0 ≤ S ∧ S + sumC (l.drop k) ≤ 4194304 ∧ hearGo (rowsH (l.drop k)) hi out = H) ∧ Hid (∀ (M1 : Nat) (q1 : Int × Int), out.length = M1 + 1 → out[M1]? = some q1 → (if hi then q1.2 = 0 else 0 < q1.2)) ∧ Hid (KL 49 2 c2 w v out y)) (fun _ i _ => (n - intOf i).toNat)
  case atStart => exact ⟨0, false, .slice none 0 0, [], 0, w1, rfl, rfl, rfl, ⟨Nat.zero_le _, (fun h => by cases h), Nat.zero_le _, (fun p h => by cases h), by omega, by have := hok.out.2.2; simpa using this, hH'.out⟩, (fun M p h => by simp at h), (KL.nil w1).base hw1.out⟩
  case round =>
    obtain ⟨k, hi, v, out, S, y, rfl, rfl, rfl, J, G, K⟩ := hrel
    clear hC
    by_cases hlt : k < n
    · obtain ⟨s, hs, hdrop⟩ := at_list hl'.out hlt
      obtain ⟨gb, ob, rfl, hR⟩ := hl.out k s hs
      have hd := drop_in hok.out.2.1 k
      rw [hdrop] at hd
      have hS := J.out.2.2.2.2.2.1
      rw [hdrop] at hS
      have hpos := sumC_nonneg hd.2.pos
      obtain ⟨c, sa⟩ := s
      have c1 : 1 ≤ c := hd.1.1
      have c2' : c ≤ 1048576 := hd.1.2
      have hS2 : Hid (S + c + sumC (l.drop (k + 1)) ≤ 4194304 ∧ S + c ≤ 4194304) := by
        simp only [sumC] at hS
        exact ⟨by omega, by omega⟩
      have hRg : Hid (y.rangeAt gb (ob + k * 10) (spC ⟨c, sa⟩).toList) := range_keep hR K.out.low
      have ik := fun v => idxP (g := gb) (off := ob) (len := n) (cap := cap) Tryd.underlying38 (s := 10) (by kernel_rfl) .i64 k v hlt
      have hki : (k : Int) < n := by omega
      have hlt' : Hid (k < n) := hlt
      have J2 : Hid (hearGo ((sa.Ta, c) :: rowsH (l.drop (k + 1))) hi out = H) := by
        have h := J.out.2.2.2.2.2.2
        rw [hdrop] at h
        exact h
      have hin : Hid (∀ p ∈ out, inS S p) := J.out.2.2.2.1
      have hol : Hid (out.length ≤ k ∧ out.length ≤ 4096) := ⟨J.out.2.2.1, by have := J.out.2.2.1; have := hok.out.1; omega⟩
      have hhi : Hid (hi = true → 0 < out.length) := J.out.2.1
      have S0 : Hid (0 ≤ S) := J.out.2.2.2.2.1
      obtain ⟨sp', cv, rfl, -, -, -, -⟩ := K.out.own.open kWave.len
      replace hd : Hid _ := hd
      clear hlt hs hdrop hS hpos hR J hd
      go_wp2_with (first
        | ((with_reducible refine at_loadm rtS gb (ob + k * 10) (spC ⟨c, sa⟩) ?_ ?_ (.tmp 18) ?_ ?_ ?_ ?_); exact hRg.out; rfl; kernel_rfl; rfl; rfl)
        | ((with_reducible refine gen_world (y.alloc (.cells Z 37)) (Fm y [(y.heap.size, Z, 37)]) (Fm.one y _ _) ?_); intro y3 K3)
        | ((with_reducible refine at_st rtS y.heap.size Z (spC ⟨c, sa⟩) ?_ ?_ ?_ ?_ (.tmp 7) (.tmp 19) ?_ ?_ ?_ ?_ ?_); exact K3.out.bx 0 _ _ _ rfl; exact hZ1.out; rfl; exact spC_one _; rfl; rfl; rfl; rfl; intro y4 hw4; have F4 : Hid (Fm y [(y.heap.size, spC ⟨c, sa⟩, 37)] y4) := K3.out.put 0 _ _ _ _ rfl hw4.out; refine stopAt ?_))
      have B4 : Hid (Bx y4 y.heap.size (spC ⟨c, sa⟩) 37) := F4.out.bx 0 _ _ _ rfl
      have K4 : Hid (KL 49 2 c2 w (.slice sp' out.length cv) out y4) := K.out.below F4.out.low
      obtain ⟨b7, eb7⟩ : ∃ b, y.heap.size = b := ⟨_, rfl⟩
      rw [eb7] at B4 ⊢
      have dC := B4.out.c 0 _ (spC_c ⟨c, sa⟩)
      have dT := B4.out.c 2 _ (spC_Ta ⟨c, sa⟩)
      dsimp only at dC dT
      obtain ⟨Ta, eT⟩ : ∃ x, sa.Ta = x := ⟨_, rfl⟩
      rw [eT] at dT J2
      clear eb7 eT F4 hw4 K3 K hRg
      by_cases hz : out.length = 0
      · have e0 : out = [] := List.eq_nil_of_length_eq_zero hz
        subst e0
        obtain rfl : hi = false := by
          cases hi
          · rfl
          · have := hhi.out rfl
            simp at this
        have q0 : ((List.length ([] : List (Int × Int)) : Nat) : Int) = 0 := rfl
        rw [hz] at K4 ⊢
        clear hz q0
        cases Ta
        · have J3 : Hid (hearGo (rowsH (l.drop (k + 1))) false [] = H) := by have h := J2.out; rw [hear_off0] at h; exact h
          refine Stop.go ?_
          go_wp2
          go_roundw
          case rel => exact ⟨k + 1, false, _, [], S + c, _, rfl, rfl, by simp, ⟨hlt'.out, (fun h => by cases h), Nat.zero_le _, (fun p h => by cases h), by have := S0.out; omega, hS2.out.1, J3.out⟩, (fun M p h => by simp at h), K4⟩
          case measure => have := hlt'.out; simp [intOf]; omega
        · obtain ⟨out, eout⟩ : ∃ o : List (Int × Int), [] = o := ⟨_, rfl⟩
          have J3 : Hid (hearGo (rowsH (l.drop (k + 1))) true (out ++ [(c, 0)]) = H) := by rw [← eout]; exact J2.out
          rw [eout] at hin hol K4
          clear J2 G eout
          have hin2 : Hid (∀ q ∈ out ++ [(c, 0)], inS (S + c) q) := inS_app hin.out (by omega) _ (by have := S0.out; unfold inS; dsimp only; omega)
          have hG2 : Hid (∀ (M1 : Nat) (q1 : Int × Int), (out ++ [(c, 0)]).length = M1 + 1 → (out ++ [(c, 0)])[M1]? = some q1 → (if true then q1.2 = 0 else 0 < q1.2)) := fun M' q hM' hq => by
            rw [List.length_append] at hM'
            obtain rfl : M' = out.length := by simpa using hM'.symm
            rw [List.getElem?_append_right (Nat.le_refl _), Nat.sub_self] at hq
            cases hq
            simp
          refine Stop.go ?_
          go_wp2_with (first
            | ((with_reducible refine at_bu #[(0, .tmp 40)] [(0, .int .i64 c)] (c2 (c, 0)).toArray ?_ ?_ ?_ (hb1.out _) ?_); kernel_rfl; rfl; (simp only [List.map_toArray, List.map_cons, List.map_nil]; rfl))
            | ((with_reducible refine at_bsWa (c, 0) (.tmp 41) ?_ ?_ ?_ ?_); rfl; rfl; rfl)
            | (at_builtin; refine at_appL kWave rfl (.tmp 38) (.tmp 42) rfl w.heap.size (.slice sp' 0 cv) out rfl (K4.out.own.alloc _) y4.heap.size (c, 0) rfl (bx1 _ _ _) ?_ ?_ ?_; (have := hol.out.2; omega); (have := K4.out.low.size; simp; omega); intro v' y5 A; have K5 : Hid (KL 49 2 c2 w v' (out ++ [(c, 0)]) y5) := K4.out.add A.out; clear A))
          go_roundw
          case rel => exact ⟨k + 1, true, _, _, S + c, _, rfl, rfl, by simp, ⟨hlt'.out, (fun _ => by simp), by have := hol.out.1; simp; omega, hin2.out, by have := S0.out; omega, hS2.out.1, J3.out⟩, hG2, K5⟩
          case measure => have := hlt'.out; simp [intOf]; omega
      · obtain ⟨M, hm⟩ : ∃ M, out.length = M + 1 := ⟨out.length - 1, by omega⟩
        clear hz
        obtain ⟨p, hp⟩ : ∃ p, out[M]? = some p := ⟨_, List.getElem?_eq_getElem (by omega)⟩
        have hGp := G.out M p hm hp
        have hpS := hin.out p (List.mem_of_getElem? hp)
        unfold inS at hpS
        obtain ⟨sp'', cv', e2, hL, hne, -, -⟩ := K4.out.own.open kWave.len
        cases e2
        obtain ⟨g, o', rfl, -, -, -⟩ := l2_at hL M p hp
        obtain ⟨e0, -, hBg, -⟩ := hne _ rfl
        dsimp only at e0 hBg
        subst e0
        cases Ta
        · have J3 : Hid (hearGo (rowsH (l.drop (k + 1))) false (out.set M (p.1, p.2 + c)) = H) := by
            have h := J2.out
            rw [hear_off c _ hi out M p hp hm] at h
            exact h
          clear G hGp
          have hin2 : Hid (∀ q ∈ out.set M (p.1, p.2 + c), inS (S + c) q) := inS_set hin.out (by omega) M _ (by unfold inS; dsimp only; omega)
          have hG2 : Hid (∀ (M1 : Nat) (q1 : Int × Int), (out.set M (p.1, p.2 + c)).length = M1 + 1 → (out.set M (p.1, p.2 + c))[M1]? = some q1 → (if false then q1.2 = 0 else 0 < q1.2)) := fun M' q hM' hq => by
            rw [List.length_set] at hM'
            obtain rfl : M' = M := by omega
            rw [List.getElem?_set_self (by omega)] at hq
            cases hq
            simp
            omega
          have hset : Hid (∀ z, KL 49 2 c2 w (.slice (some ⟨g, 0, none⟩) out.length cv) out z → KL 49 2 c2 w (.slice (some ⟨g, 0, none⟩) out.length cv) (out.set M (p.1, p.2 + c)) (z.setCell ⟨g, M * 2 + 1, none⟩ (.int .i64 (p.2 + c))) ∧ z.frozen? ⟨g, M * 2 + 1, none⟩ = false) := fun z hz => ⟨hz.set1 kWave.len M 1 p (p.1, p.2 + c) _ hp (by decide) rfl, (hz.own.set1 kWave.len M 1 p (p.1, p.2 + c) (.int .i64 (p.2 + c)) hp (by decide) rfl).2.1⟩
          have hcA : Hid (∀ u, Below y4.heap.size y4 u → u.cell? ⟨g, M * 2 + 1, none⟩ = some (.int .i64 p.2)) := fun u h => by
            obtain ⟨g', o', e', _, h1, h2⟩ := l2_at (hL.below h) M p hp
            cases e'
            rw [Nat.zero_add] at h1 h2
            exact h2
          have hcC : Hid (∀ u, Below y4.heap.size y4 u → u.cell? ⟨b7, 0, none⟩ = some (.int .i64 c)) := fun u h => (h.cell (p := ⟨b7, 0, none⟩) (heap_lt B4.out)).trans dC
          have ho2 : Hid (0 < (out.set M (p.1, p.2 + c)).length ∧ (out.set M (p.1, p.2 + c)).length ≤ k + 1) := by
            rw [List.length_set]
            exact ⟨by omega, by have := hol.out.1; omega⟩
          have xL := l2_at hL M p hp
          obtain ⟨A, eA⟩ : ∃ x, p.2 = x := ⟨_, rfl⟩
          rw [eA] at hcA hset J3 hin2 hG2 ho2
          have A0 : 0 ≤ A := by omega
          have A1 : A ≤ 4194304 := by have := hS2.out.2; omega
          have hwA : IntKind.i64.wrap (A + c) = A + c := by rw [IntKind.wrap_i64]; omega
          obtain ⟨m, em⟩ : ∃ x, out.length = x := ⟨_, rfl⟩
          rw [em] at K4 hset hm hol ⊢
          have Ml : M < m := by omega
          have mi : (m : Int) ≤ 4096 := by have := hol.out.2; omega
          have hsub : (m : Int) - 1 = (M : Int) := by omega
          have Mi : (M : Int) < m := by omega
          have M0 : decide ((M : Int) < 0) = false := by simp
          have M00 : decide ((0 : Int) ≤ M) = true := by simp
          have iM := fun v => idxP (g := g) (off := 0) (len := m) (cap := cv) Tryd.underlying24 (s := 2) (by kernel_rfl) .i64 M v Ml
          simp only [Nat.zero_add] at iM
          clear em eA hpS hL hne J2 hp Ml hm hBg xL
          refine Stop.go ?_
          go_wp2
          refine region_class_tail 10 (Below y4.heap.size y4) (by kernel_rfl) (by kernel_rfl) (below_drew (Below.refl _ _)) ?_
          simp only [List.take_succ_cons, List.take_zero, List.drop_succ_cons, List.drop_zero]
          with_reducible refine quiet_one (.slice (some ⟨g, 0, none⟩) m cv) ?_ ?_ ?_
          · kernel_rfl
          · intro u hy
            go_simp
          with_reducible refine quiet_one (.int .i64 (M : Int)) ?_ ?_ ?_
          · kernel_rfl
          · intro u hy
            go_simp
          with_reducible refine quiet_one (.pointer (some ⟨g, M * 2, none⟩)) ?_ ?_ ?_
          · kernel_rfl
          · intro u hy
            go_simp
          with_reducible refine quiet_one (.pointer (some ⟨g, M * 2 + 1, none⟩)) ?_ ?_ ?_
          · kernel_rfl
          · intro u hy
            go_simp
          with_reducible refine quiet_one (.int .i64 A) ?_ ?_ ?_
          · kernel_rfl
          · intro u hy
            have x := hcA.out u hy
            go_simp
          with_reducible refine quiet_one (.pointer (some ⟨b7, 0, none⟩)) ?_ ?_ ?_
          · kernel_rfl
          · intro u hy
            go_simp
          with_reducible refine quiet_one (.int .i64 c) ?_ ?_ ?_
          · kernel_rfl
          · intro u hy
            have x := hcC.out u hy
            go_simp
          with_reducible refine quiet_one (.int .i64 (A + c)) ?_ ?_ ?_
          · kernel_rfl
          · intro u hy
            go_simp
            try exact hwA
          with_reducible refine quiet_one (.pointer (some ⟨g, M * 2, none⟩)) ?_ ?_ ?_
          · kernel_rfl
          · intro u hy
            go_simp
          with_reducible refine quiet_one (.pointer (some ⟨g, M * 2 + 1, none⟩)) ?_ ?_ ?_
          · kernel_rfl
          · intro u hy
            go_simp
          refine wpQuiet_nil ?_
          intro z0 U0
          have K0 := hset.out z0 (K4.out.below U0)
          have fz := K0.2
          have xA := hcA.out z0 U0
          replace K0 : Hid _ := K0.1
          replace U0 : Hid _ := U0
          go_simp
          go_wp2
          go_roundw
          case rel => exact ⟨k + 1, false, _, _, S + c, _, rfl, rfl, by simp, ⟨hlt'.out, fun _ => ho2.out.1, ho2.out.2, hin2.out, by have := S0.out; omega, hS2.out.1, J3.out⟩, hG2, K0⟩
          case measure => have := hlt'.out; simp [intOf]; omega
        · by_cases hlow : 0 < p.2
          · obtain rfl : hi = false := by
              cases hi
              · rfl
              · simp at hGp
                omega
            have J3 : Hid (hearGo (rowsH (l.drop (k + 1))) true (out ++ [(c, 0)]) = H) := J2.out
            have xl : y4.cell? ⟨g, M * 2 + 1, none⟩ = some (.int .i64 p.2) := by
              obtain ⟨g', o', e', _, h1, h2⟩ := l2_at hL M p hp
              cases e'
              rw [Nat.zero_add] at h2
              exact h2
            have hp2 : p.2 ≤ 4194304 := by have := hS2.out.2; omega
            have q2 : decide (0 < p.2) = true := by simpa using hlow
            obtain ⟨A, eA⟩ : ∃ x, p.2 = x := ⟨_, rfl⟩
            rw [eA] at xl q2 hp2
            obtain ⟨m, em⟩ : ∃ x, out.length = x := ⟨_, rfl⟩
            have em' : Hid (out.length = m) := em
            rw [em] at K4 hm hol ⊢
            have Ml : M < m := by omega
            have mi : (m : Int) ≤ 4096 := by have := hol.out.2; omega
            have hsub : (m : Int) - 1 = (M : Int) := by omega
            have Mi : (M : Int) < m := by omega
            have M0 : decide ((M : Int) < 0) = false := by simp
            have iM := fun v => idxP (g := g) (off := 0) (len := m) (cap := cv) Tryd.underlying24 (s := 2) (by kernel_rfl) .i64 M v Ml
            simp only [Nat.zero_add] at iM
            rw [← em] at hol
            clear em eA hpS hL hne J2 hp Ml hm hBg G hGp hlow
            have hin2 : Hid (∀ q ∈ out ++ [(c, 0)], inS (S + c) q) := inS_app hin.out (by omega) _ (by have := S0.out; unfold inS; dsimp only; omega)
            have hG2 : Hid (∀ (M1 : Nat) (q1 : Int × Int), (out ++ [(c, 0)]).length = M1 + 1 → (out ++ [(c, 0)])[M1]? = some q1 → (if true then q1.2 = 0 else 0 < q1.2)) := fun M' q hM' hq => by
              rw [List.length_append] at hM'
              obtain rfl : M' = out.length := by simpa using hM'.symm
              rw [List.getElem?_append_right (Nat.le_refl _), Nat.sub_self] at hq
              cases hq
              simp
            refine Stop.go ?_
            go_wp2_with (first
              | ((with_reducible refine at_bu #[(0, .tmp 40)] [(0, .int .i64 c)] (c2 (c, 0)).toArray ?_ ?_ ?_ (hb1.out _) ?_); kernel_rfl; rfl; (simp only [List.map_toArray, List.map_cons, List.map_nil]; rfl))
              | ((with_reducible refine at_bsWa (c, 0) (.tmp 41) ?_ ?_ ?_ ?_); rfl; rfl; rfl)
              | (at_builtin; refine at_appL kWave rfl (.tmp 38) (.tmp 42) rfl w.heap.size (.slice (some ⟨g, 0, none⟩) m cv) out rfl (K4.out.own.alloc _) y4.heap.size (c, 0) rfl (bx1 _ _ _) ?_ ?_ ?_; (have := hol.out.2; omega); (have := K4.out.low.size; simp; omega); intro v' y5 A; have K5 : Hid (KL 49 2 c2 w v' (out ++ [(c, 0)]) y5) := K4.out.add A.out; clear A))
            go_roundw
            case rel => exact ⟨k + 1, true, _, _, S + c, _, rfl, rfl, by simp, ⟨hlt'.out, (fun _ => by simp), by have := hol.out.1; simp; omega, hin2.out, by have := S0.out; omega, hS2.out.1, J3.out⟩, hG2, K5⟩
            case measure => have := hlt'.out; simp [intOf]; omega
          · have hp0 : p.2 = 0 := by omega
            obtain rfl : hi = true := by
              cases hi
              · simp at hGp
                omega
              · rfl
            have J3 : Hid (hearGo (rowsH (l.drop (k + 1))) true (out.set M (p.1 + c, p.2)) = H) := by
              have h := J2.out
              rw [hear_on_on c _ out M p hp hm] at h
              exact h
            clear G hGp hlow
            have hin2 : Hid (∀ q ∈ out.set M (p.1 + c, p.2), inS (S + c) q) := inS_set hin.out (by omega) M _ (by unfold inS; dsimp only; omega)
            have hG2 : Hid (∀ (M1 : Nat) (q1 : Int × Int), (out.set M (p.1 + c, p.2)).length = M1 + 1 → (out.set M (p.1 + c, p.2))[M1]? = some q1 → (if true then q1.2 = 0 else 0 < q1.2)) := fun M' q hM' hq => by
              rw [List.length_set] at hM'
              obtain rfl : M' = M := by omega
              rw [List.getElem?_set_self (by omega)] at hq
              cases hq
              simp
              omega
            have hset : Hid (∀ z, KL 49 2 c2 w (.slice (some ⟨g, 0, none⟩) out.length cv) out z → KL 49 2 c2 w (.slice (some ⟨g, 0, none⟩) out.length cv) (out.set M (p.1 + c, p.2)) (z.setCell ⟨g, M * 2, none⟩ (.int .i64 (p.1 + c))) ∧ z.frozen? ⟨g, M * 2, none⟩ = false) := fun z hz => ⟨hz.set1 kWave.len M 0 p (p.1 + c, p.2) _ hp (by decide) rfl, (hz.own.set1 kWave.len M 0 p (p.1 + c, p.2) (.int .i64 (p.1 + c)) hp (by decide) rfl).2.1⟩
            have hcA : Hid (∀ u, Below y4.heap.size y4 u → u.cell? ⟨g, M * 2, none⟩ = some (.int .i64 p.1)) := fun u h => by
              obtain ⟨g', o', e', _, h1, h2⟩ := l2_at (hL.below h) M p hp
              cases e'
              rw [Nat.zero_add] at h1 h2
              exact h1
            have hcC : Hid (∀ u, Below y4.heap.size y4 u → u.cell? ⟨b7, 0, none⟩ = some (.int .i64 c)) := fun u h => (h.cell (p := ⟨b7, 0, none⟩) (heap_lt B4.out)).trans dC
            have ho2 : Hid (0 < (out.set M (p.1 + c, p.2)).length ∧ (out.set M (p.1 + c, p.2)).length ≤ k + 1) := by
              rw [List.length_set]
              exact ⟨by omega, by have := hol.out.1; omega⟩
            have xL := l2_at hL M p hp
            obtain ⟨A, eA⟩ : ∃ x, p.1 = x := ⟨_, rfl⟩
            rw [eA] at hcA hset J3 hin2 hG2 ho2
            have A0 : 0 ≤ A := by omega
            have A1 : A ≤ 4194304 := by have := hS2.out.2; omega
            have hwA : IntKind.i64.wrap (A + c) = A + c := by rw [IntKind.wrap_i64]; omega
            have p20 : p.2 = 0 := by omega
            have xl : y4.cell? ⟨g, M * 2 + 1, none⟩ = some (.int .i64 0) := by
              obtain ⟨g', o', e', _, h1, h2⟩ := xL
              cases e'
              rw [Nat.zero_add, p20] at h2
              exact h2
            obtain ⟨m, em⟩ : ∃ x, out.length = x := ⟨_, rfl⟩
            rw [em] at K4 hset hm hol ⊢
            have Ml : M < m := by omega
            have mi : (m : Int) ≤ 4096 := by have := hol.out.2; omega
            have hsub : (m : Int) - 1 = (M : Int) := by omega
            have Mi : (M : Int) < m := by omega
            have M0 : decide ((M : Int) < 0) = false := by simp
            have M00 : decide ((0 : Int) ≤ M) = true := by simp
            have iM := fun v => idxP (g := g) (off := 0) (len := m) (cap := cv) Tryd.underlying24 (s := 2) (by kernel_rfl) .i64 M v Ml
            simp only [Nat.zero_add] at iM
            clear em eA hpS hL hne p20 J2 hp Ml hm hBg xL
            refine Stop.go ?_
            go_wp2
            refine region_class_tail 10 (Below y4.heap.size y4) (by kernel_rfl) (by kernel_rfl) (below_drew (Below.refl _ _)) ?_
            simp only [List.take_succ_cons, List.take_zero, List.drop_succ_cons, List.drop_zero]
            with_reducible refine quiet_one (.slice (some ⟨g, 0, none⟩) m cv) ?_ ?_ ?_
            · kernel_rfl
            · intro u hy
              go_simp
            with_reducible refine quiet_one (.int .i64 (M : Int)) ?_ ?_ ?_
            · kernel_rfl
            · intro u hy
              go_simp
            with_reducible refine quiet_one (.pointer (some ⟨g, M * 2, none⟩)) ?_ ?_ ?_
            · kernel_rfl
            · intro u hy
              go_simp
            with_reducible refine quiet_one (.pointer (some ⟨g, M * 2, none⟩)) ?_ ?_ ?_
            · kernel_rfl
            · intro u hy
              go_simp
            with_reducible refine quiet_one (.int .i64 A) ?_ ?_ ?_
            · kernel_rfl
            · intro u hy
              have x := hcA.out u hy
              go_simp
            with_reducible refine quiet_one (.pointer (some ⟨b7, 0, none⟩)) ?_ ?_ ?_
            · kernel_rfl
            · intro u hy
              go_simp
            with_reducible refine quiet_one (.int .i64 c) ?_ ?_ ?_
            · kernel_rfl
            · intro u hy
              have x := hcC.out u hy
              go_simp
            with_reducible refine quiet_one (.int .i64 (A + c)) ?_ ?_ ?_
            · kernel_rfl
            · intro u hy
              go_simp
              try exact hwA
            with_reducible refine quiet_one (.pointer (some ⟨g, M * 2, none⟩)) ?_ ?_ ?_
            · kernel_rfl
            · intro u hy
              go_simp
            with_reducible refine quiet_one (.pointer (some ⟨g, M * 2, none⟩)) ?_ ?_ ?_
            · kernel_rfl
            · intro u hy
              go_simp
            refine wpQuiet_nil ?_
            intro z0 U0
            have K0 := hset.out z0 (K4.out.below U0)
            have fz := K0.2
            have xA := hcA.out z0 U0
            replace K0 : Hid _ := K0.1
            replace U0 : Hid _ := U0
            go_simp
            go_wp2
            go_roundw
            case rel => exact ⟨k + 1, true, _, _, S + c, _, rfl, rfl, by simp, ⟨hlt'.out, fun _ => ho2.out.1, ho2.out.2, hin2.out, by have := S0.out; omega, hS2.out.1, J3.out⟩, hG2, K0⟩
            case measure => have := hlt'.out; simp [intOf]; omega
    · have hke : k = n := by have := J.out.1; omega
      subst hke
      have J2 : Hid (out = H) := by
        have h := J.out.2.2.2.2.2.2
        rw [List.drop_eq_nil_of_le (by rw [hl'.out]; exact Nat.le_refl _)] at h
        exact h
      clear hlt
      go_wp2
      go_ret2
      exact ⟨v, rfl, by rw [← J2.out]; exact K⟩
end Go.Proofs.YtdfjfacilbahkaaDoor
