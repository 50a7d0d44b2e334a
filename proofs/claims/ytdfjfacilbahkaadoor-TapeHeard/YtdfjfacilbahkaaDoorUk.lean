/- The document's Heard: the walk. -/
import Derived.Test.YtdfjfacilbahkaaDoorUj
import Derived.StillTail
namespace Go.Proofs.YtdfjfacilbahkaaDoor
open Go Go.RowKit
set_option linter.unusedVariables false
set_option maxHeartbeats 4000000
set_option maxRecDepth 20000

theorem builtWa1 (x : Int) : Tryd.prog.built 49 [(0, .int .i64 x)] = some (c2 (x, 0)).toArray := by kernel_rfl
def inS (S : Int) (p : Int × Int) : Prop := 0 ≤ p.1 ∧ p.1 ≤ S ∧ 0 ≤ p.2 ∧ p.2 ≤ S
theorem inS_set {S c : Int} {out : List (Int × Int)} (h : ∀ p ∈ out, inS S p) (hc : 0 ≤ c) (k : Nat) (q : Int × Int) (hq : inS (S + c) q) : ∀ p ∈ out.set k q, inS (S + c) p := fun p hp => by
  rcases List.mem_or_eq_of_mem_set hp with h1 | h1
  · have := h p h1
    unfold inS at this ⊢
    omega
  · rw [h1]
    exact hq
theorem inS_app {S c : Int} {out : List (Int × Int)} (h : ∀ p ∈ out, inS S p) (hc : 0 ≤ c) (q : Int × Int) (hq : inS (S + c) q) : ∀ p ∈ out ++ [q], inS (S + c) p := fun p hp => by
  rw [List.mem_append] at hp
  rcases hp with h1 | h1
  · have := h p h1
    unfold inS at this ⊢
    omega
  · simp at h1
    rw [h1]
    exact hq
theorem rheard_any (w : World) (sp : Option Addr) (cap : Nat) (l : List Sn) (hl : Hid (LiesS w sp l)) (hn : l.length ≤ 9223372036854775807) :
    Calls Tryd.prog 21 #[.slice sp l.length cap] w fun e w' => ∃ v, e = .returned (.tuple #[v, .int .i64 (heardW l).2]) ∧ Hid (KL 49 2 c2 w v (heardW l).1 w') := by
  have hC := rcheck_any w sp cap l hl hn
  unfold heardW
  obtain ⟨n, hn'⟩ : ∃ n, l.length = n := ⟨_, rfl⟩
  obtain ⟨E, hE⟩ : ∃ x, checkS l = x := ⟨_, rfl⟩
  rw [hn', hE] at hC
  rw [hn', hE]
  have ni : (n : Int) ≤ 9223372036854775807 := by omega
  by_cases h0 : ¬ E = 0
  · rw [if_neg h0]
    have qe : (E == 0) = false := by simpa using h0
    clear h0 hE hn hn'
    go_enter Tryd.func21, Tryd.ntmps21
    go_wp2_with (go_at_call 32; refine hC.mono ?_; rintro e x ⟨rfl, hx⟩; replace hx := hx.symm; subst hx)
    go_ret2
    exact ⟨.slice none 0 0, rfl, KL.nil w⟩
  obtain rfl : E = 0 := Decidable.not_not.1 h0
  rw [if_pos rfl]
  have hok : Hid (n ≤ 4096 ∧ InM 1048576 l ∧ sumC l ≤ 4194304) := by
    unfold checkS at hE
    rw [hn'] at hE
    split at hE
    · cases hE
    · split at hE
      · rename_i h1 h2
        exact ⟨by omega, (inB_iff l).1 h2.1, h2.2⟩
      · cases hE
  have n4 : (n : Int) ≤ 4096 := by have := hok.out.1; omega
  have hl' : Hid (l.length = n) := hn'
  obtain ⟨H, hH⟩ : ∃ x, hearW (rowsH l) = x := ⟨_, rfl⟩
  have hH' : Hid (hearGo (rowsH (l.drop 0)) false [] = H) := hH
  rw [hH]
  have hb1 : Hid (∀ x, Tryd.prog.built 49 [(0, .int .i64 x)] = some (c2 (x, 0)).toArray) := builtWa1
  clear hE hn hn' hH h0
  go_enter Tryd.func21, Tryd.ntmps21
  go_wp2_with (go_at_call 32; refine hC.mono ?_; rintro e x ⟨rfl, hx⟩; replace hx := hx.symm; subst hx)
  go_loopw [5, 6, 7, 8] (fun o b i _ wz => ∃ (k : Nat) (hi : Bool) (v : Value) (out : List (Int × Int)) (S : Int) (y : World), y = wz ∧ v = o ∧ b = .bool hi ∧ i = .int .i64 (k : Int) ∧ Hid (k ≤ n ∧ (hi = true → 0 < out.length) ∧ out.length ≤ k ∧ (∀ p ∈ out, inS S p) ∧ 0 ≤ S ∧ S + sumC (l.drop k) ≤ 4194304 ∧ hearGo (rowsH (l.drop k)) hi out = H) ∧ Hid (KL 49 2 c2 w v out y)) (fun _ _ i _ _ => (n - intOf i).toNat)
  case atStart => exact ⟨0, false, .slice none 0 0, [], 0, w, rfl, rfl, rfl, rfl, ⟨Nat.zero_le _, (fun h => by cases h), Nat.zero_le _, (fun p h => by cases h), by omega, by have := hok.out.2.2; simpa using this, hH'.out⟩, KL.nil w⟩
  case round =>
    obtain ⟨k, hi, v, out, S, y, rfl, rfl, rfl, rfl, J, K⟩ := hrel
    clear hC
    by_cases hlt : k < n
    · obtain ⟨s, hs, hdrop⟩ := at_list hl'.out hlt
      obtain ⟨gb, ob, rfl, hR⟩ := hl.out k s hs
      have hd := drop_in hok.out.2.1 k
      rw [hdrop] at hd
      have hS := J.out.2.2.2.2.2.1
      rw [hdrop] at hS
      have hpos := sumC_nonneg hd.2.pos
      obtain ⟨c, sa⟩ := s
      have c1 : 1 ≤ c := hd.1.1
      have c2' : c ≤ 1048576 := hd.1.2
      have hS2 : Hid (S + c + sumC (l.drop (k + 1)) ≤ 4194304 ∧ S + c ≤ 4194304) := by
        simp only [sumC] at hS
        exact ⟨by omega, by omega⟩
      have hcC : Hid (∀ u, Below w.heap.size w u → u.cell? ⟨gb, ob + k * 10, none⟩ = some (.int .i64 c)) := fun u h => rangeC (range_keep hR h) 0 _ (spC_c ⟨c, sa⟩)
      have hcT : Hid (∀ u, Below w.heap.size w u → u.cell? ⟨gb, ob + k * 10 + 2, none⟩ = some (.bool sa.Ta)) := fun u h => rangeC (range_keep hR h) 2 _ (spC_Ta ⟨c, sa⟩)
      have ik := fun v => idxP (g := gb) (off := ob) (len := n) (cap := cap) Tryd.underlying38 (s := 10) (by kernel_rfl) .i64 k v hlt
      have hki : (k : Int) < n := by omega
      have hlt' : Hid (k < n) := hlt
      have J2 : Hid (hearGo ((sa.Ta, c) :: rowsH (l.drop (k + 1))) hi out = H) := by
        have h := J.out.2.2.2.2.2.2
        rw [hdrop] at h
        exact h
      obtain ⟨Ta, eT⟩ : ∃ x, sa.Ta = x := ⟨_, rfl⟩
      rw [eT] at hcT J2
      have hin : Hid (∀ p ∈ out, inS S p) := J.out.2.2.2.1
      have dC := hcC.out y K.out.low
      have dT := hcT.out y K.out.low
      have hol : Hid (out.length ≤ k ∧ out.length ≤ 4096) := ⟨J.out.2.2.1, by have := J.out.2.2.1; have := hok.out.1; omega⟩
      have hhi : Hid (hi = true → 0 < out.length) := J.out.2.1
      have S0 : Hid (0 ≤ S) := J.out.2.2.2.2.1
      replace hd : Hid _ := hd
      clear hlt hs hdrop hS hpos eT hR J hd
      cases Ta
      · by_cases hz : out.length = 0
        · have e0 : out = [] := List.eq_nil_of_length_eq_zero hz
          subst e0
          have J3 : Hid (hearGo (rowsH (l.drop (k + 1))) false [] = H) := by have h := J2.out; rw [hear_off0] at h; exact h
          obtain ⟨sp', cv, rfl, -, -, -, -⟩ := K.out.own.open kWave.len
          have q0 : ((List.length ([] : List (Int × Int)) : Nat) : Int) = 0 := rfl
          clear hz J2
          go_wp2
          go_roundw
          case rel => exact ⟨k + 1, false, _, [], S + c, _, rfl, rfl, rfl, by simp, ⟨hlt'.out, (fun h => by cases h), Nat.zero_le _, (fun p h => by cases h), by have := S0.out; omega, hS2.out.1, J3.out⟩, K⟩
          case measure => have := hlt'.out; simp [intOf]; omega
        · obtain ⟨M, hm⟩ : ∃ M, out.length = M + 1 := ⟨out.length - 1, by omega⟩
          clear hz
          obtain ⟨p, hp⟩ : ∃ p, out[M]? = some p := ⟨_, List.getElem?_eq_getElem (by omega)⟩
          have J3 : Hid (hearGo (rowsH (l.drop (k + 1))) false (out.set M (p.1, p.2 + c)) = H) := by
            have h := J2.out
            rw [hear_off c _ hi out M p hp hm] at h
            exact h
          have hpS := hin.out p (List.mem_of_getElem? hp)
          unfold inS at hpS
          have hin2 : Hid (∀ q ∈ out.set M (p.1, p.2 + c), inS (S + c) q) := inS_set hin.out (by omega) M _ (by unfold inS; dsimp only; omega)
          obtain ⟨sp', cv, rfl, hL, hne, -, -⟩ := K.out.own.open kWave.len
          obtain ⟨g, o', rfl, -, hx1, hx2⟩ := l2_at hL M p hp
          obtain ⟨e0, -, hBg, -⟩ := hne _ rfl
          dsimp only at e0 hBg
          subst e0
          have hgb : gb < w.heap.size := World.block_lt_of_cell? w _ (hcT.out w (Below.refl _ _))
          have gne1 : gb ≠ g := by omega
          have gne2 : g ≠ gb := by omega
          have hset : Hid (∀ z, KL 49 2 c2 w (.slice (some ⟨g, 0, none⟩) out.length cv) out z → KL 49 2 c2 w (.slice (some ⟨g, 0, none⟩) out.length cv) (out.set M (p.1, p.2 + c)) (z.setCell ⟨g, M * 2 + 1, none⟩ (.int .i64 (p.2 + c))) ∧ z.frozen? ⟨g, M * 2 + 1, none⟩ = false) := fun z hz => ⟨hz.set1 kWave.len M 1 p (p.1, p.2 + c) _ hp (by decide) rfl, (hz.own.set1 kWave.len M 1 p (p.1, p.2 + c) (.int .i64 (p.2 + c)) hp (by decide) rfl).2.1⟩
          have hcA : Hid (∀ u, Below y.heap.size y u → u.cell? ⟨g, M * 2 + 1, none⟩ = some (.int .i64 p.2)) := fun u h => by
            have hL2 := hL.below h
            obtain ⟨g', o', e', _, h1, h2⟩ := l2_at hL2 M p hp
            cases e'
            rw [Nat.zero_add] at h1 h2
            exact h2
          obtain ⟨A, eA⟩ : ∃ x, p.2 = x := ⟨_, rfl⟩
          rw [eA] at hcA hset J3 hin2
          have A0 : 0 ≤ A := by omega
          have A1 : A ≤ 4194304 := by have := hS2.out.2; omega
          have hset' := hset
          obtain ⟨m, em⟩ : ∃ x, out.length = x := ⟨_, rfl⟩
          rw [em] at K hset hm hol ⊢
          have Ml : M < m := by omega
          have mi : (m : Int) ≤ 4096 := by have := hol.out.2; omega
          have m0 : (0 : Int) < m := by omega
          have hsub : (m : Int) - 1 = (M : Int) := by omega
          have Mi : (M : Int) < m := by omega
          have hwM : IntKind.i64.wrap (M : Int) = M := by rw [IntKind.wrap_i64]; omega
          have hwA : IntKind.i64.wrap (A + c) = A + c := by rw [IntKind.wrap_i64]; omega
          have iM := fun v => idxP (g := g) (off := 0) (len := m) (cap := cv) Tryd.underlying24 (s := 2) (by kernel_rfl) .i64 M v Ml
          simp only [Nat.zero_add] at iM
          have ho2 : Hid (0 < (out.set M (p.1, p.2 + c)).length ∧ (out.set M (p.1, p.2 + c)).length ≤ k + 1) := by
            rw [List.length_set, em]
            exact ⟨by omega, by have := hol.out.1; omega⟩
          rw [eA] at ho2
          have em' : Hid (out.length = m) := em
          clear em eA hset' hpS hx1 hx2 hL hne J2 hp Ml hm hBg hgb
          go_wp2
          refine region_class_tail 17 (Below y.heap.size y) (by kernel_rfl) (by kernel_rfl) (below_drew (Below.refl _ _)) ?_
          simp only [List.take_succ_cons, List.take_zero, List.drop_succ_cons, List.drop_zero]
          with_reducible refine quiet_one (.slice (some ⟨g, 0, none⟩) m cv) ?_ ?_ ?_
          · kernel_rfl
          · intro u hy
            go_simp
          with_reducible refine quiet_one (.int .i64 (m : Int)) ?_ ?_ ?_
          · kernel_rfl
          · intro u hy
            go_simp
          with_reducible refine quiet_one (.int .i64 (M : Int)) ?_ ?_ ?_
          · kernel_rfl
          · intro u hy
            go_simp
            try exact hwM
          with_reducible refine quiet_one (.slice (some ⟨g, 0, none⟩) m cv) ?_ ?_ ?_
          · kernel_rfl
          · intro u hy
            go_simp
          with_reducible refine quiet_one (.int .i64 (m : Int)) ?_ ?_ ?_
          · kernel_rfl
          · intro u hy
            go_simp
          with_reducible refine quiet_one (.int .i64 (M : Int)) ?_ ?_ ?_
          · kernel_rfl
          · intro u hy
            go_simp
            try exact hwM
          with_reducible refine quiet_one (.pointer (some ⟨g, M * 2, none⟩)) ?_ ?_ ?_
          · kernel_rfl
          · intro u hy
            go_simp
          with_reducible refine quiet_one (.pointer (some ⟨g, M * 2 + 1, none⟩)) ?_ ?_ ?_
          · kernel_rfl
          · intro u hy
            go_simp
          with_reducible refine quiet_one (.int .i64 A) ?_ ?_ ?_
          · kernel_rfl
          · intro u hy
            have x := hcA.out u hy
            go_simp
          with_reducible refine quiet_one (.slice (some ⟨gb, ob, none⟩) n cap) ?_ ?_ ?_
          · kernel_rfl
          · intro u hy
            go_simp
          with_reducible refine quiet_one (.int .i64 (k : Int)) ?_ ?_ ?_
          · kernel_rfl
          · intro u hy
            go_simp
          with_reducible refine quiet_one (.pointer (some ⟨gb, ob + k * 10, none⟩)) ?_ ?_ ?_
          · kernel_rfl
          · intro u hy
            go_simp
          with_reducible refine quiet_one (.pointer (some ⟨gb, ob + k * 10, none⟩)) ?_ ?_ ?_
          · kernel_rfl
          · intro u hy
            go_simp
          with_reducible refine quiet_one (.int .i64 c) ?_ ?_ ?_
          · kernel_rfl
          · intro u hy
            have x := hcC.out u (K.out.below hy).low
            go_simp
          with_reducible refine quiet_one (.int .i64 (A + c)) ?_ ?_ ?_
          · kernel_rfl
          · intro u hy
            go_simp
            try exact hwA
          with_reducible refine quiet_one (.pointer (some ⟨g, M * 2, none⟩)) ?_ ?_ ?_
          · kernel_rfl
          · intro u hy
            go_simp
          with_reducible refine quiet_one (.pointer (some ⟨g, M * 2 + 1, none⟩)) ?_ ?_ ?_
          · kernel_rfl
          · intro u hy
            go_simp
          refine wpQuiet_nil ?_
          intro z0 U0
          have K0 := hset.out z0 (K.out.below U0)
          have fz := K0.2
          have xA := hcA.out z0 U0
          have xT := hcT.out z0 (K.out.below U0).low
          replace K0 : Hid _ := K0.1
          replace U0 : Hid _ := U0
          go_simp
          go_wp2
          go_roundw
          case rel => exact ⟨k + 1, false, _, _, S + c, _, rfl, rfl, rfl, by simp, ⟨hlt'.out, fun _ => ho2.out.1, ho2.out.2, hin2.out, by have := S0.out; omega, hS2.out.1, J3.out⟩, K0⟩
          case measure => have := hlt'.out; simp [intOf]; omega
      · cases hi
        · have J3 : Hid (hearGo (rowsH (l.drop (k + 1))) true (out ++ [(c, 0)]) = H) := J2.out
          have hin2 : Hid (∀ q ∈ out ++ [(c, 0)], inS (S + c) q) := inS_app hin.out (by omega) _ (by have := S0.out; unfold inS; dsimp only; omega)
          obtain ⟨sp', cv, ev, -, -, -, -⟩ := K.out.own.open kWave.len
          have ev' : Hid (v = .slice sp' out.length cv) := ev
          subst ev
          clear J2
          go_wp2_with (first
            | ((with_reducible refine at_bu #[(0, .tmp 59)] [(0, .int .i64 c)] (c2 (c, 0)).toArray ?_ ?_ ?_ (hb1.out _) ?_); kernel_rfl; rfl; (simp only [List.map_toArray, List.map_cons, List.map_nil]; rfl))
            | ((with_reducible refine at_bsWa (c, 0) (.tmp 60) ?_ ?_ ?_ ?_); rfl; rfl; rfl)
            | (at_builtin; refine at_appL kWave rfl (.tmp 54) (.tmp 61) rfl w.heap.size (.slice sp' out.length cv) out rfl (K.out.own.alloc _) y.heap.size (c, 0) rfl (bx1 _ _ _) ?_ ?_ ?_; (have := hol.out.2; omega); (have := K.out.low.size; simp; omega); intro v' y2 A; have K2 : Hid (KL 49 2 c2 w v' (out ++ [(c, 0)]) y2) := K.out.add A.out; have dT2 : y2.cell? ⟨gb, ob + k * 10 + 2, none⟩ = some (.bool true) := hcT.out y2 K2.out.low; clear A))
          go_roundw
          case rel => exact ⟨k + 1, true, _, _, S + c, _, rfl, rfl, rfl, by simp, ⟨hlt'.out, (fun _ => by simp), by have := hol.out.1; simp; omega, hin2.out, by have := S0.out; omega, hS2.out.1, J3.out⟩, K2⟩
          case measure => have := hlt'.out; simp [intOf]; omega
        · obtain ⟨M, hm⟩ : ∃ M, out.length = M + 1 := ⟨out.length - 1, by have := hhi.out rfl; omega⟩
          obtain ⟨p, hp⟩ : ∃ p, out[M]? = some p := ⟨_, List.getElem?_eq_getElem (by omega)⟩
          have J3 : Hid (hearGo (rowsH (l.drop (k + 1))) true (out.set M (p.1 + c, p.2)) = H) := by
            have h := J2.out
            rw [hear_on_on c _ out M p hp hm] at h
            exact h
          have hpS := hin.out p (List.mem_of_getElem? hp)
          unfold inS at hpS
          have hin2 : Hid (∀ q ∈ out.set M (p.1 + c, p.2), inS (S + c) q) := inS_set hin.out (by omega) M _ (by unfold inS; dsimp only; omega)
          obtain ⟨sp', cv, rfl, hL, hne, -, -⟩ := K.out.own.open kWave.len
          obtain ⟨g, o', rfl, -, hx1, hx2⟩ := l2_at hL M p hp
          obtain ⟨e0, -, hBg, -⟩ := hne _ rfl
          dsimp only at e0 hBg
          subst e0
          have hgb : gb < w.heap.size := World.block_lt_of_cell? w _ (hcT.out w (Below.refl _ _))
          have gne1 : gb ≠ g := by omega
          have gne2 : g ≠ gb := by omega
          have hset : Hid (∀ z, KL 49 2 c2 w (.slice (some ⟨g, 0, none⟩) out.length cv) out z → KL 49 2 c2 w (.slice (some ⟨g, 0, none⟩) out.length cv) (out.set M (p.1 + c, p.2)) (z.setCell ⟨g, M * 2, none⟩ (.int .i64 (p.1 + c))) ∧ z.frozen? ⟨g, M * 2, none⟩ = false) := fun z hz => ⟨hz.set1 kWave.len M 0 p (p.1 + c, p.2) _ hp (by decide) rfl, (hz.own.set1 kWave.len M 0 p (p.1 + c, p.2) (.int .i64 (p.1 + c)) hp (by decide) rfl).2.1⟩
          have hcA : Hid (∀ u, Below y.heap.size y u → u.cell? ⟨g, M * 2, none⟩ = some (.int .i64 p.1)) := fun u h => by
            have hL2 := hL.below h
            obtain ⟨g', o', e', _, h1, h2⟩ := l2_at hL2 M p hp
            cases e'
            rw [Nat.zero_add] at h1 h2
            exact h1
          obtain ⟨A, eA⟩ : ∃ x, p.1 = x := ⟨_, rfl⟩
          rw [eA] at hcA hset J3 hin2
          have A0 : 0 ≤ A := by omega
          have A1 : A ≤ 4194304 := by have := hS2.out.2; omega
          have hset' := hset
          obtain ⟨m, em⟩ : ∃ x, out.length = x := ⟨_, rfl⟩
          rw [em] at K hset hm hol ⊢
          have Ml : M < m := by omega
          have mi : (m : Int) ≤ 4096 := by have := hol.out.2; omega
          have m0 : (0 : Int) < m := by omega
          have hsub : (m : Int) - 1 = (M : Int) := by omega
          have Mi : (M : Int) < m := by omega
          have hwM : IntKind.i64.wrap (M : Int) = M := by rw [IntKind.wrap_i64]; omega
          have hwA : IntKind.i64.wrap (A + c) = A + c := by rw [IntKind.wrap_i64]; omega
          have iM := fun v => idxP (g := g) (off := 0) (len := m) (cap := cv) Tryd.underlying24 (s := 2) (by kernel_rfl) .i64 M v Ml
          simp only [Nat.zero_add] at iM
          have ho2 : Hid (0 < (out.set M (p.1 + c, p.2)).length ∧ (out.set M (p.1 + c, p.2)).length ≤ k + 1) := by
            rw [List.length_set, em]
            exact ⟨by omega, by have := hol.out.1; omega⟩
          rw [eA] at ho2
          have em' : Hid (out.length = m) := em
          clear em eA hset' hpS hx1 hx2 hL hne J2 hp Ml hm hBg hgb
          go_wp2
          refine region_class_tail 17 (Below y.heap.size y) (by kernel_rfl) (by kernel_rfl) (below_drew (Below.refl _ _)) ?_
          simp only [List.take_succ_cons, List.take_zero, List.drop_succ_cons, List.drop_zero]
          with_reducible refine quiet_one (.slice (some ⟨g, 0, none⟩) m cv) ?_ ?_ ?_
          · kernel_rfl
          · intro u hy
            go_simp
          with_reducible refine quiet_one (.int .i64 (m : Int)) ?_ ?_ ?_
          · kernel_rfl
          · intro u hy
            go_simp
          with_reducible refine quiet_one (.int .i64 (M : Int)) ?_ ?_ ?_
          · kernel_rfl
          · intro u hy
            go_simp
            try exact hwM
          with_reducible refine quiet_one (.slice (some ⟨g, 0, none⟩) m cv) ?_ ?_ ?_
          · kernel_rfl
          · intro u hy
            go_simp
          with_reducible refine quiet_one (.int .i64 (m : Int)) ?_ ?_ ?_
          · kernel_rfl
          · intro u hy
            go_simp
          with_reducible refine quiet_one (.int .i64 (M : Int)) ?_ ?_ ?_
          · kernel_rfl
          · intro u hy
            go_simp
            try exact hwM
          with_reducible refine quiet_one (.pointer (some ⟨g, M * 2, none⟩)) ?_ ?_ ?_
          · kernel_rfl
          · intro u hy
            go_simp
          with_reducible refine quiet_one (.pointer (some ⟨g, M * 2, none⟩)) ?_ ?_ ?_
          · kernel_rfl
          · intro u hy
            go_simp
          with_reducible refine quiet_one (.int .i64 A) ?_ ?_ ?_
          · kernel_rfl
          · intro u hy
            have x := hcA.out u hy
            go_simp
          with_reducible refine quiet_one (.slice (some ⟨gb, ob, none⟩) n cap) ?_ ?_ ?_
          · kernel_rfl
          · intro u hy
            go_simp
          with_reducible refine quiet_one (.int .i64 (k : Int)) ?_ ?_ ?_
          · kernel_rfl
          · intro u hy
            go_simp
          with_reducible refine quiet_one (.pointer (some ⟨gb, ob + k * 10, none⟩)) ?_ ?_ ?_
          · kernel_rfl
          · intro u hy
            go_simp
          with_reducible refine quiet_one (.pointer (some ⟨gb, ob + k * 10, none⟩)) ?_ ?_ ?_
          · kernel_rfl
          · intro u hy
            go_simp
          with_reducible refine quiet_one (.int .i64 c) ?_ ?_ ?_
          · kernel_rfl
          · intro u hy
            have x := hcC.out u (K.out.below hy).low
            go_simp
          with_reducible refine quiet_one (.int .i64 (A + c)) ?_ ?_ ?_
          · kernel_rfl
          · intro u hy
            go_simp
            try exact hwA
          with_reducible refine quiet_one (.pointer (some ⟨g, M * 2, none⟩)) ?_ ?_ ?_
          · kernel_rfl
          · intro u hy
            go_simp
          with_reducible refine quiet_one (.pointer (some ⟨g, M * 2, none⟩)) ?_ ?_ ?_
          · kernel_rfl
          · intro u hy
            go_simp
          refine wpQuiet_nil ?_
          intro z0 U0
          have K0 := hset.out z0 (K.out.below U0)
          have fz := K0.2
          have xA := hcA.out z0 U0
          have xT := hcT.out z0 (K.out.below U0).low
          replace K0 : Hid _ := K0.1
          replace U0 : Hid _ := U0
          go_simp
          go_wp2
          go_roundw
          case rel => exact ⟨k + 1, true, _, _, S + c, _, rfl, rfl, rfl, by simp, ⟨hlt'.out, fun _ => ho2.out.1, ho2.out.2, hin2.out, by have := S0.out; omega, hS2.out.1, J3.out⟩, K0⟩
          case measure => have := hlt'.out; simp [intOf]; omega
    · have hke : k = n := by have := J.out.1; omega
      subst hke
      have J2 : Hid (out = H) := by
        have h := J.out.2.2.2.2.2.2
        rw [List.drop_eq_nil_of_le (by rw [hl'.out]; exact Nat.le_refl _)] at h
        exact h
      clear hlt
      go_wp2
      go_ret2
      exact ⟨v, rfl, by rw [← J2.out]; exact K⟩
end Go.Proofs.YtdfjfacilbahkaaDoor
