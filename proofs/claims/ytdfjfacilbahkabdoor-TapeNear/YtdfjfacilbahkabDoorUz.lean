/- Waves a little longer or shorter, one bit turned: the statement's walk. -/
import Derived.Test.YtdfjfacilbahkabDoorUw
namespace Go.Proofs.YtdfjfacilbahkabDoor
open Go Go.RowKit
set_option linter.unusedVariables false
set_option maxHeartbeats 4000000
set_option maxRecDepth 20000

theorem bit_facts (p : Int × Int) (h : bitW p = 0 ∨ bitW p = 1) : 1 ≤ p.1 ∧ p.1 ≤ 800 ∧ 1 ≤ p.2 ∧ p.2 ≤ 800 ∧ (bitW p = 1 ↔ 195 < p.1 + p.2) := by
  unfold bitW at h ⊢
  by_cases h1 : p.1 < 1 ∨ p.2 < 1 ∨ 800 < p.1 ∨ 800 < p.2
  · rw [if_pos h1] at h; omega
  · rw [if_neg h1] at h ⊢
    by_cases h2 : p.1 + p.2 < 40 ∨ 800 < p.1 + p.2
    · rw [if_pos h2] at h; omega
    · rw [if_neg h2] at h ⊢
      by_cases h3 : p.1 + p.2 ≤ 195
      · rw [if_pos h3]; omega
      · rw [if_neg h3]; omega
theorem near_walk (w : World) (T : Hid (Tq w)) (sb : Option Addr) (cb : Nat) (bs : List UInt8) (so : Option Addr) (co : Nat) (offs : List Int) (at' : Int) (hl : Hid (LB w sb bs)) (ho : Hid (LiesL 1 cI w so offs)) (hn : bs.length ≤ maxLen) (hk : offs.length ≤ maxLen) :
    Calls Tryd.prog 3 #[.slice sb bs.length cb, .slice so offs.length co, .int .i64 at'] w fun e w' => e = .returned (.bool true) ∧ Below w.heap.size w w' := by
  have hn : bs.length ≤ 9223372036854775807 := by unfold maxLen at hn; omega
  have hk : offs.length ≤ 9223372036854775807 := by unfold maxLen at hk; omega
  obtain ⟨n, hn'⟩ : ∃ n, bs.length = n := ⟨_, rfl⟩
  obtain ⟨k, hk'⟩ : ∃ k, offs.length = k := ⟨_, rfl⟩
  have ni : (n : Int) ≤ 9223372036854775807 := by omega
  have ki : (k : Int) ≤ 9223372036854775807 := by omega
  by_cases hb1 : 1000 < n
  · have q : decide ((1000 : Int) < n) = true := by simp; omega
    rw [hn', hk']
    clear hb1 hn hn' hk hk'
    go_enter Tryd.func3, Tryd.ntmps3
    go_wp2_with (go_at_call 4; refine (awake_any w T).mono ?_; rintro e z7 ⟨rfl, h7⟩; replace h7 : Hid _ := h7)
    go_ret
    exact ⟨rfl, h7.out⟩
  have q : decide ((1000 : Int) < n) = false := by simp; omega
  by_cases hb2 : n = 0
  · have q2 : ((n : Int) == 0) = true := by simp; omega
    rw [hn', hk']
    clear hb1 hn hn' hk hk'
    go_enter Tryd.func3, Tryd.ntmps3
    go_wp2_with (go_at_call 4; refine (awake_any w T).mono ?_; rintro e z7 ⟨rfl, h7⟩; replace h7 : Hid _ := h7)
    go_ret
    exact ⟨rfl, h7.out⟩
  have q2 : ((n : Int) == 0) = false := by simp; omega
  have q3 : ¬ n = 0 := hb2
  have n1000 : (n : Int) ≤ 1000 := by omega
  have hWr : Hid (Calls Tryd.prog 5 #[.slice sb n cb, .int .i64 3] w fun e w' => ∃ v, e = .returned (.tuple #[v, .int .i64 0]) ∧ Hid (KL 30 2 c2 w v (writeL bs 3) w')) := by
    have := pwrite_any w sb cb bs 3 hl (by omega)
    have e : writeW bs 3 = (writeL bs 3, 0) := by unfold writeW; rw [if_neg (by omega), if_neg (by omega)]; rfl
    rw [e, hn'] at this
    exact this
  have hwl := writeL_len bs 3
  rw [hn'] at hwl
  have hwv := writeL_wv bs 3
  have hrd : Hid (∀ P : List (Int × Int), P.map bitW = (writeL bs 3).map bitW → readW P (n : Int) = (bs, 0, 0)) := fun P h => by
    rw [readW_bits P (writeL bs 3) _ h]
    have := read_write bs 3 n [] (by omega) (by omega)
    rw [List.append_nil, List.take_of_length_le (by omega)] at this
    exact this
  have hfl : Hid (∀ (P : List (Int × Int)) (kk N : Nat) (p : Int × Int), P.map bitW = (writeL bs 3).map bitW → kk < 9 * n → N = 3 + kk / 9 * 10 + 1 + kk % 9 → P[N]? = some p → (bitW p = 0 ∨ bitW p = 1) ∧ readW (P.set N (wv (1 - bitW p))) (n : Int) = ([], 121, ((3 + kk / 9 * 10 + 9 : Nat) : Int))) := fun P kk N p h1 h2 h3 h4 => by
    have := near_flip bs kk N (by omega) h3 (by omega) P h1 p h4
    rw [hn'] at this
    exact this
  obtain ⟨WL, hWL⟩ : ∃ x, writeL bs 3 = x := ⟨_, rfl⟩
  rw [hWL] at hWr hwl hwv hrd hfl
  obtain ⟨m, hm⟩ : ∃ m, WL.length = m := ⟨_, rfl⟩
  have hmI : (m : Int) = 10 * (n : Int) + 3 := by omega
  have qm : ((m : Int) != 10 * (n : Int) + 3) = false := by simp; omega
  have mb : (m : Int) ≤ 10003 := by omega
  have hm' : Hid (WL.length = m ∧ m = 3 + n * 10 ∧ 0 < n) := ⟨hm, by omega, by omega⟩
  replace hwv : Hid _ := hwv
  have hcv : Hid (∀ (y : World) (p : Option Addr) (c : Nat), LB y p bs → (convert 22 9 (.slice p n c)).run Tryd.prog y = .ok (.string ⟨bs.toArray⟩) y) := fun y p c h => by rw [← hn']; exact LB.conv h c
  obtain ⟨S, hS⟩ : ∃ S : ByteArray, (⟨bs.toArray⟩ : ByteArray) = S := ⟨_, rfl⟩
  rw [hS] at hcv
  have hP : Hid (∀ (y : World) (p : Option Addr) (c : Nat) (P : List (Int × Int)), Tq y → P.length = m → L2 y p P → Calls Tryd.prog 6 #[.slice p m c, .int .i64 (n : Int)] y fun e w' => ∃ v, e = .returned (.tuple #[v, .int .i64 (readW P n).2.1, .int .i64 (readW P n).2.2]) ∧ Hid (KL 5 1 cB y v (readW P n).1 w')) := fun y p c P ht h1 h2 => by
    have := pread_any y ht p c P n h2 (by omega)
    rw [h1] at this
    exact this
  have ho' : Hid (∀ (y : World) (j : Nat) (v : Int), Below w.heap.size w y → offs[j]? = some v → ∃ go oo, so = some ⟨go, oo, none⟩ ∧ y.cell? ⟨go, oo + j, none⟩ = some (.int .i64 v)) := fun y j v h1 h2 => by
    obtain ⟨go, oo, e, hr⟩ := ho.out.below h1 j v h2
    have := hr 0 (.int .i64 v) rfl
    rw [Nat.mul_one, Nat.add_zero] at this
    exact ⟨go, oo, e, this⟩
  have hok : Hid (offs.length = k) := hk'
  have hbl : Hid (bs.length = n) := hn'
  rw [hn', hk']
  clear hb1 hb2 hn hn' hk hk' hWL hwl hm hS ho
  go_enter Tryd.func3, Tryd.ntmps3
  go_wp2_with (go_at_call 5; refine hWr.out.mono ?_; rintro e y1 ⟨va, rfl, H1⟩; refine stopAt ?_)
  obtain ⟨pa, ca, rfl, la, aa, -⟩ := H1.out.own.open kWave.len
  rw [hm'.out.1] at H1 ⊢
  obtain ⟨g, rfl⟩ : ∃ g, pa = some ⟨g, 0, none⟩ := by
    obtain ⟨g, o, e, _⟩ := la 0 _ (List.getElem?_eq_getElem (by have := hm'.out; omega))
    have h1 : o = 0 := (aa _ e).1
    subst h1
    exact ⟨g, e⟩
  clear la aa hWr
  refine Stop.go ?_
  go_wp2
  go_loopw [9] (fun i wz => ∃ (j : Nat) (P : List (Int × Int)) (y : World), y = wz ∧ i = .int .i64 (j : Int) ∧ Hid (j ≤ m ∧ P.length = m ∧ Nr WL P j) ∧ Hid (KL 30 2 c2 w (.slice (some ⟨g, 0, none⟩) m ca) P y)) (fun i _ => (m - intOf i).toNat)
  case atStart => exact ⟨0, WL, y1, rfl, rfl, ⟨Nat.zero_le _, hm'.out.1, ⟨rfl, fun _ _ => rfl⟩⟩, H1⟩
  case round =>
    obtain ⟨j, P, y0, rfl, rfl, J, K⟩ := hrel
    by_cases hlt : j < m
    · by_cases hlk : j < k
      · have hji : (j : Int) < m := by omega
        have hjk : (j : Int) < k := by omega
        obtain ⟨b, hb, hWb⟩ := hwv.out j (by rw [hm'.out.1]; exact hlt)
        have hPb : P[j]? = some (wv b) := by rw [J.out.2.2.rest j (Nat.le_refl _)]; exact hWb
        obtain ⟨v, hv⟩ : ∃ v, offs[j]? = some v := ⟨_, List.getElem?_eq_getElem (by rw [hok.out]; exact hlk)⟩
        obtain ⟨go, oo, rfl, -⟩ := ho'.out y0 j v K.out.low hv
        have hcv' : Hid (∀ u, Below w.heap.size w u → u.cell? ⟨go, oo + j, none⟩ = some (.int .i64 v)) := fun u hu => by
          obtain ⟨g9, o9, e9, c9⟩ := ho'.out u j v hu hv
          cases e9
          exact c9
        obtain ⟨A0, hA0⟩ : ∃ x, (wv b).1 = x := ⟨_, rfl⟩
        obtain ⟨A1, hA1⟩ : ∃ x, (wv b).2 = x := ⟨_, rfl⟩
        have hAb : 56 ≤ A0 ∧ A0 ≤ 140 ∧ 56 ≤ A1 ∧ A1 ≤ 140 := by
          rw [← hA0, ← hA1]
          rcases hb with rfl | rfl <;> decide
        obtain ⟨X0, hX0⟩ : ∃ x, bits .and .i64 v 31 = x := ⟨_, rfl⟩
        obtain ⟨X1, hX1⟩ : ∃ x, bits .and .i64 v 15 = x := ⟨_, rfl⟩
        have hx0 : 0 ≤ X0 ∧ X0 ≤ 31 := by rw [← hX0]; exact and_lowN v 31 (by decide) (by decide)
        have hx1 : 0 ≤ X1 ∧ X1 ≤ 15 := by rw [← hX1]; exact and_lowN v 15 (by decide) (by decide)
        have hw1 : IntKind.i64.wrap (A0 + X0) = A0 + X0 := by rw [IntKind.wrap_i64]; omega
        have hw2 : IntKind.i64.wrap (A0 + X0 - 16) = A0 + X0 - 16 := by rw [IntKind.wrap_i64]; omega
        have hw3 : IntKind.i64.wrap (A1 - X1) = A1 - X1 := by rw [IntKind.wrap_i64]; omega
        have hN2 : Hid (Nr WL (P.set j (A0 + X0 - 16, A1 - X1)) (j + 1)) := by
          have := J.out.2.2.next b hb hWb X0 X1 hx0 hx1
          rw [hA0, hA1] at this
          exact this
        have hPA : P[j]? = some (A0, A1) := by rw [hPb, ← hA0, ← hA1]
        have hP2 : (P.set j (A0 + X0 - 16, A1))[j]? = some (A0 + X0 - 16, A1) := List.getElem?_set_self (by rw [J.out.2.1]; exact hlt)
        have ij : ∀ u, (Instr.indexAt 25 (.slice (some ⟨g, 0, none⟩) m ca) (.int .i64 (j : Int))).run Tryd.prog u = .ok (.pointer (some ⟨g, j * 2, none⟩)) u := fun u => by
          have := idxP (g := g) (off := 0) (len := m) (cap := ca) Tryd.underlying25 (s := 2) (by kernel_rfl) .i64 j u hlt
          rw [Nat.zero_add] at this
          exact this
        have io : ∀ u, (Instr.indexAt 23 (.slice (some ⟨go, oo, none⟩) k co) (.int .i64 (j : Int))).run Tryd.prog u = .ok (.pointer (some ⟨go, oo + j, none⟩)) u := fun u => by
          have := idxP (g := go) (off := oo) (len := k) (cap := co) Tryd.underlying23 (s := 1) (by kernel_rfl) .i64 j u hlk
          rw [Nat.mul_one] at this
          exact this
        have at2 : Hid (∀ (Q : List (Int × Int)) (q : Int × Int) (u : World), KL 30 2 c2 w (.slice (some ⟨g, 0, none⟩) m ca) Q u → Q[j]? = some q → u.cell? ⟨g, j * 2, none⟩ = some (.int .i64 q.1) ∧ u.cell? ⟨g, j * 2 + 1, none⟩ = some (.int .i64 q.2)) := fun Q q u h1 h2 => by
          obtain ⟨p9, c9, e9, l9, _⟩ := h1.own.open kWave.len
          injection e9 with e1 _ _
          obtain ⟨g8, o8, e8, _, x1, x2⟩ := l2_at l9 j q h2
          rw [← e1] at e8
          cases e8
          simp only [Nat.zero_add] at x1 x2
          exact ⟨x1, x2⟩
        have hcA0 : Hid (∀ u, Below y0.heap.size y0 u → u.cell? ⟨g, j * 2, none⟩ = some (.int .i64 A0)) := fun u hu => (at2.out P (A0, A1) u (K.out.below hu) hPA).1
        have hcv0 : Hid (∀ u, Below y0.heap.size y0 u → u.cell? ⟨go, oo + j, none⟩ = some (.int .i64 v)) := fun u hu => hcv'.out u (K.out.low.trans (hu.mono K.out.low.size))
        have hset0 : Hid (∀ u, Below y0.heap.size y0 u → KL 30 2 c2 w (.slice (some ⟨g, 0, none⟩) m ca) (P.set j (A0 + X0 - 16, A1)) (u.setCell ⟨g, j * 2, none⟩ (.int .i64 (A0 + X0 - 16))) ∧ u.frozen? ⟨g, j * 2, none⟩ = false) := fun u hu => by
          have := (K.out.below hu).put1 kWave.len j 0 (A0, A1) (A0 + X0 - 16, A1) (.int .i64 (A0 + X0 - 16)) hPA (by decide) rfl
          rw [Nat.add_zero] at this
          exact this
        have hset1 : Hid (∀ u, KL 30 2 c2 w (.slice (some ⟨g, 0, none⟩) m ca) (P.set j (A0 + X0 - 16, A1)) u → KL 30 2 c2 w (.slice (some ⟨g, 0, none⟩) m ca) (P.set j (A0 + X0 - 16, A1 - X1)) (u.setCell ⟨g, j * 2 + 1, none⟩ (.int .i64 (A1 - X1))) ∧ u.frozen? ⟨g, j * 2 + 1, none⟩ = false) := fun u hu => by
          have := hu.put1 kWave.len j 1 (A0 + X0 - 16, A1) (A0 + X0 - 16, A1 - X1) (.int .i64 (A1 - X1)) hP2 (by decide) rfl
          rw [List.set_set] at this
          exact this
        have hlt' : Hid (j < m ∧ P.length = m) := ⟨hlt, J.out.2.1⟩
        replace hPA : Hid _ := hPA
        replace hP2 : Hid _ := hP2
        clear hlt hlk hwv hWb hPb hb hA0 hA1 J hv hcv hrd hfl hP
        go_wp2
        refine region_class_tail 16 (Below y0.heap.size y0) (by kernel_rfl) (by kernel_rfl) (below_drew (Below.refl _ _)) ?_
        simp only [List.take_succ_cons, List.take_zero, List.drop_succ_cons, List.drop_zero]
        with_reducible refine quiet_one (.slice (some ⟨g, 0, none⟩) m ca) ?_ ?_ ?_
        · kernel_rfl
        · intro u hy
          go_simp
        with_reducible refine quiet_one (.int .i64 (j : Int)) ?_ ?_ ?_
        · kernel_rfl
        · intro u hy
          go_simp
        with_reducible refine quiet_one (.slice (some ⟨g, 0, none⟩) m ca) ?_ ?_ ?_
        · kernel_rfl
        · intro u hy
          go_simp
        with_reducible refine quiet_one (.int .i64 (j : Int)) ?_ ?_ ?_
        · kernel_rfl
        · intro u hy
          go_simp
        with_reducible refine quiet_one (.pointer (some ⟨g, j * 2, none⟩)) ?_ ?_ ?_
        · kernel_rfl
        · intro u hy
          go_simp
        with_reducible refine quiet_one (.pointer (some ⟨g, j * 2, none⟩)) ?_ ?_ ?_
        · kernel_rfl
        · intro u hy
          go_simp
        with_reducible refine quiet_one (.int .i64 A0) ?_ ?_ ?_
        · kernel_rfl
        · intro u hy
          have xA := hcA0.out u hy
          go_simp
        with_reducible refine quiet_one (.slice (some ⟨go, oo, none⟩) k co) ?_ ?_ ?_
        · kernel_rfl
        · intro u hy
          go_simp
        with_reducible refine quiet_one (.int .i64 (j : Int)) ?_ ?_ ?_
        · kernel_rfl
        · intro u hy
          go_simp
        with_reducible refine quiet_one (.pointer (some ⟨go, oo + j, none⟩)) ?_ ?_ ?_
        · kernel_rfl
        · intro u hy
          go_simp
        with_reducible refine quiet_one (.int .i64 v) ?_ ?_ ?_
        · kernel_rfl
        · intro u hy
          have xv := hcv0.out u hy
          go_simp
        with_reducible refine quiet_one (.int .i64 X0) ?_ ?_ ?_
        · kernel_rfl
        · intro u hy
          go_simp
          try exact hX0
        with_reducible refine quiet_one (.int .i64 (A0 + X0)) ?_ ?_ ?_
        · kernel_rfl
        · intro u hy
          go_simp
          try exact hw1
        with_reducible refine quiet_one (.int .i64 (A0 + X0 - 16)) ?_ ?_ ?_
        · kernel_rfl
        · intro u hy
          go_simp
          try exact hw2
        with_reducible refine quiet_one (.pointer (some ⟨g, j * 2, none⟩)) ?_ ?_ ?_
        · kernel_rfl
        · intro u hy
          go_simp
        with_reducible refine quiet_one (.pointer (some ⟨g, j * 2, none⟩)) ?_ ?_ ?_
        · kernel_rfl
        · intro u hy
          go_simp
        refine wpQuiet_nil ?_
        intro z0 U0
        have K0 := hset0.out z0 U0
        have fz := K0.2
        have xA := hcA0.out z0 U0
        have K1 : Hid _ := K0.1
        clear K0
        go_simp
        go_wp2
        generalize z0.setCell ⟨g, j * 2, none⟩ (.int .i64 (A0 + X0 - 16)) = y1 at K1 ⊢
        clear fz xA U0
        have hcA1 : Hid (∀ u, Below y1.heap.size y1 u → u.cell? ⟨g, j * 2 + 1, none⟩ = some (.int .i64 A1)) := fun u hu => (at2.out _ (A0 + X0 - 16, A1) u (K1.out.below hu) hP2.out).2
        have hcv1 : Hid (∀ u, Below y1.heap.size y1 u → u.cell? ⟨go, oo + j, none⟩ = some (.int .i64 v)) := fun u hu => hcv'.out u (K1.out.low.trans (hu.mono K1.out.low.size))
        refine region_class_tail 15 (Below y1.heap.size y1) (by kernel_rfl) (by kernel_rfl) (below_drew (Below.refl _ _)) ?_
        simp only [List.take_succ_cons, List.take_zero, List.drop_succ_cons, List.drop_zero]
        with_reducible refine quiet_one (.slice (some ⟨g, 0, none⟩) m ca) ?_ ?_ ?_
        · kernel_rfl
        · intro u hy
          go_simp
        with_reducible refine quiet_one (.int .i64 (j : Int)) ?_ ?_ ?_
        · kernel_rfl
        · intro u hy
          go_simp
        with_reducible refine quiet_one (.slice (some ⟨g, 0, none⟩) m ca) ?_ ?_ ?_
        · kernel_rfl
        · intro u hy
          go_simp
        with_reducible refine quiet_one (.int .i64 (j : Int)) ?_ ?_ ?_
        · kernel_rfl
        · intro u hy
          go_simp
        with_reducible refine quiet_one (.pointer (some ⟨g, j * 2, none⟩)) ?_ ?_ ?_
        · kernel_rfl
        · intro u hy
          go_simp
        with_reducible refine quiet_one (.pointer (some ⟨g, j * 2 + 1, none⟩)) ?_ ?_ ?_
        · kernel_rfl
        · intro u hy
          go_simp
        with_reducible refine quiet_one (.int .i64 A1) ?_ ?_ ?_
        · kernel_rfl
        · intro u hy
          have xA := hcA1.out u hy
          go_simp
        with_reducible refine quiet_one (.slice (some ⟨go, oo, none⟩) k co) ?_ ?_ ?_
        · kernel_rfl
        · intro u hy
          go_simp
        with_reducible refine quiet_one (.int .i64 (j : Int)) ?_ ?_ ?_
        · kernel_rfl
        · intro u hy
          go_simp
        with_reducible refine quiet_one (.pointer (some ⟨go, oo + j, none⟩)) ?_ ?_ ?_
        · kernel_rfl
        · intro u hy
          go_simp
        with_reducible refine quiet_one (.int .i64 v) ?_ ?_ ?_
        · kernel_rfl
        · intro u hy
          have xv := hcv1.out u hy
          go_simp
        with_reducible refine quiet_one (.int .i64 X1) ?_ ?_ ?_
        · kernel_rfl
        · intro u hy
          go_simp
          try exact hX1
        with_reducible refine quiet_one (.int .i64 (A1 - X1)) ?_ ?_ ?_
        · kernel_rfl
        · intro u hy
          go_simp
          try exact hw3
        with_reducible refine quiet_one (.pointer (some ⟨g, j * 2, none⟩)) ?_ ?_ ?_
        · kernel_rfl
        · intro u hy
          go_simp
        with_reducible refine quiet_one (.pointer (some ⟨g, j * 2 + 1, none⟩)) ?_ ?_ ?_
        · kernel_rfl
        · intro u hy
          go_simp
        refine wpQuiet_nil ?_
        intro z1 U1
        have K2 := hset1.out z1 (K1.out.below U1)
        have fz := K2.2
        have xA := hcA1.out z1 U1
        have K3 : Hid _ := K2.1
        clear K2
        go_simp
        go_wp2
        go_roundw
        case rel => exact ⟨j + 1, _, _, rfl, by simp, ⟨hlt'.out.1, by rw [List.length_set]; exact hlt'.out.2, hN2.out⟩, K3⟩
        case measure => have := hlt'.out.1; simp [intOf]; omega
      · have hji2 : (j : Int) < 10 * (n : Int) + 3 := by omega
        have hjk : ¬ (j : Int) < k := by omega
        have hjk' : ¬ j < k := hlk
        clear hlk hlt
        obtain ⟨p9, c9, e9, l9, -⟩ := K.out.own.open kWave.len
        injection e9 with e1 e2 e3
        subst e1
        clear e2 e3
        have l9' : Hid (L2 y0 (some ⟨g, 0, none⟩) P) := l9
        have hR1 := hP.out y0 (some ⟨g, 0, none⟩) ca P (T.out.below K.out.low) J.out.2.1 l9
        rw [hrd.out P J.out.2.2.bits] at hR1
        obtain ⟨FW, hFW⟩ : ∃ x, bits .and .i64 at' 1048575 = x := ⟨_, rfl⟩
        have hFb : 0 ≤ FW ∧ FW ≤ 1048575 := by rw [← hFW]; exact and_20 at'
        obtain ⟨kk, hkk⟩ : ∃ kk : Nat, FW.tmod (9 * (n : Int)) = (kk : Int) := ⟨(FW.tmod (9 * (n : Int))).toNat, by
          have h := Int.tmod_nonneg (9 * (n : Int)) hFb.1
          omega⟩
        have hkn : kk < 9 * n := by
          have := Int.tmod_lt_of_pos FW (show (0 : Int) < 9 * (n : Int) by omega)
          omega
        obtain ⟨j9, hj9⟩ : ∃ x, kk / 9 = x := ⟨_, rfl⟩
        obtain ⟨t9, ht9⟩ : ∃ x, kk % 9 = x := ⟨_, rfl⟩
        have hq9 : (kk : Int).tdiv 9 = (j9 : Int) := by rw [Int.tdiv_eq_ediv_of_nonneg (by omega), ← hj9]; omega
        have hr9 : (kk : Int).tmod 9 = (t9 : Int) := by rw [Int.tmod_eq_emod_of_nonneg (by omega), ← ht9]; omega
        have hj9b : (j9 : Int) ≤ 1000 := by omega
        have ht9b : (t9 : Int) ≤ 8 := by omega
        obtain ⟨NN, hNN⟩ : ∃ x, 3 + j9 * 10 + 1 + t9 = x := ⟨_, rfl⟩
        have hNm : NN < m := by have := hm'.out; omega
        obtain ⟨p, hp⟩ : ∃ p, P[NN]? = some p := ⟨_, List.getElem?_eq_getElem (by rw [J.out.2.1]; exact hNm)⟩
        obtain ⟨hpb, hfl2⟩ := hfl.out P kk NN p J.out.2.2.bits hkn (by rw [hj9, ht9]; exact hNN.symm) hp
        rw [hj9] at hfl2
        obtain ⟨f1, f2, f3, f4, f5⟩ := bit_facts p hpb
        have iN : ∀ u, (Instr.indexAt 25 (.slice (some ⟨g, 0, none⟩) m ca) (.int .i64 (3 + (j9 : Int) * 10 + 1 + (t9 : Int)))).run Tryd.prog u = .ok (.pointer (some ⟨g, NN * 2, none⟩)) u := fun u => by
          have := idxP (g := g) (off := 0) (len := m) (cap := ca) Tryd.underlying25 (s := 2) (by kernel_rfl) .i64 NN u hNm
          rw [Nat.zero_add, show ((NN : Nat) : Int) = 3 + (j9 : Int) * 10 + 1 + (t9 : Int) by omega] at this
          exact this
        have dnz : (9 * (n : Int) == 0) = false := by simp; have := hm'.out; omega
        have hPl : Hid (P.length = m) := J.out.2.1
        have hp' : Hid (P[NN]? = some p) := hp
        have hNm' : Hid (NN < m) := hNm
        have hbl2 := hbl.out
        have v0 := hcv
        clear hrd hfl hNN hkn hFb l9 ho' hok hwv hp hj9 ht9
        go_wp2_with (go_at_call 6; refine hR1.mono ?_; rintro e y5 ⟨v5, rfl, H5⟩; refine stopAt ?_)
        obtain ⟨p5, c5, rfl, l5, -⟩ := H5.out.own.open kByte.len
        have L5 : Hid (KL 30 2 c2 w (.slice (some ⟨g, 0, none⟩) m ca) P y5) := K.out.below H5.out.low
        rw [hbl2]
        have v1 := hcv.out y5 p5 c5 l5
        have v2 := hcv.out y5 sb cb (hl.out.below L5.out.low)
        clear v0 l5 hR1 hcv
        obtain ⟨x1, x2⟩ : y5.cell? ⟨g, NN * 2, none⟩ = some (.int .i64 p.1) ∧ y5.cell? ⟨g, NN * 2 + 1, none⟩ = some (.int .i64 p.2) := by
          obtain ⟨g8, o8, e8, _, z1, z2⟩ := l2_at (l9'.out.below H5.out.low) NN p hp'.out
          cases e8
          simp only [Nat.zero_add] at z1 z2
          exact ⟨z1, z2⟩
        obtain ⟨P1, hP1⟩ : ∃ x, p.1 = x := ⟨_, rfl⟩
        obtain ⟨P2, hP2⟩ : ∃ x, p.2 = x := ⟨_, rfl⟩
        rw [hP1] at x1 f1 f2 f5
        rw [hP2] at x2 f3 f4 f5
        clear H5 K l9' J
        refine Stop.go ?_
        have sum0 : 0 ≤ P1 + P2 := by omega
        rcases hpb with hb0 | hb1
        · have qs : decide (195 < P1 + P2) = false := by simp; omega
          have qn : ¬ 195 < P1 + P2 := by omega
          rw [hb0] at hfl2
          have eW : (wv (1 - 0)) = (140, 140) := rfl
          rw [eW] at hfl2
          have hR2 : Hid (∀ y, Tq y → L2 y (some ⟨g, 0, none⟩) (P.set NN (140, 140)) → Calls Tryd.prog 6 #[.slice (some ⟨g, 0, none⟩) m ca, .int .i64 (n : Int)] y fun e w' => ∃ q c, e = .returned (.tuple #[.slice q 0 c, .int .i64 121, .int .i64 (3 + (j9 : Int) * 10 + 9)]) ∧ Hid (Below y.heap.size y w')) := fun y ht h => by
            have := hP.out y (some ⟨g, 0, none⟩) ca (P.set NN (140, 140)) ht (by rw [List.length_set]; exact hPl.out) h
            rw [hfl2] at this
            refine this.mono ?_
            rintro e w' ⟨v, rfl, H⟩
            obtain ⟨q, c, rfl, -⟩ := H.out.own.open kByte.len
            exact ⟨q, c, by push_cast; rfl, H.out.low⟩
          clear f5 hb0 hfl2 hP
          obtain ⟨X, hX⟩ : ∃ X, (c2 (140, 140)).toArray = X := ⟨_, rfl⟩
          have bX : Hid (Tryd.prog.built 30 [(0, .int .i64 140), (1, .int .i64 140)] = some X) := by rw [← hX]; exact builtWa 140 140
          have hX1 : Hid (X.all (·.oneCell') = true ∧ (Tryd.prog.info? 30).map (·.size) = some X.size) := by rw [← hX]; exact ⟨c2_all _, rtWa.i⟩
          have hst : Hid (∀ u, KL 30 2 c2 w (.slice (some ⟨g, 0, none⟩) m ca) P u → KL 30 2 c2 w (.slice (some ⟨g, 0, none⟩) m ca) (P.set NN (140, 140)) (u.setCells g (NN * 2) X.toList) ∧ u.there g (NN * 2) X.size) := fun u hu => by
            obtain ⟨h1, h2, h3⟩ := hu.own.set kWave.len NN (by rw [hPl.out]; exact hNm'.out) (140, 140)
            rw [← hX]
            exact ⟨⟨h1, hu.low.trans (setCellsL_below _ g h3 _ _ _)⟩, h2⟩
          clear hX
          go_wp2
          go_quiet (fail)
          have K6 := hst.out (y5.drewN nq) (L5.out.below (below_drewN (Below.refl _ _)))
          have hth : Hid (World.there (y5.drewN nq) g (NN * 2) X.size) := K6.2
          have K7 : Hid _ := K6.1
          clear K6 x1 x2 v1 v2 L5
          generalize y5.drewN nq = z6 at hth K7 ⊢
          obtain ⟨z7, hz7⟩ : ∃ z, z6.setCells g (NN * 2) X.toList = z := ⟨_, rfl⟩
          have hR3 : Hid (Calls Tryd.prog 6 #[.slice (some ⟨g, 0, none⟩) m ca, .int .i64 (n : Int)] (z6.setCells g (NN * 2) X.toList) fun e w' => ∃ q c, e = .returned (.tuple #[.slice q 0 c, .int .i64 121, .int .i64 (3 + (j9 : Int) * 10 + 9)]) ∧ Hid (Below w.heap.size w w')) := by
            obtain ⟨p9, c9, e9, l9, -⟩ := K7.out.own.open kWave.len
            injection e9 with e1 e2 e3
            subst e1
            clear e2 e3
            refine (hR2.out _ (T.out.below K7.out.low) l9).mono ?_
            rintro e w' ⟨q, c, rfl, H⟩
            exact ⟨q, c, rfl, K7.out.low.trans (H.out.mono K7.out.low.size)⟩
          clear hz7 z7 hR2
          go_wp2_with (first
            | ((with_reducible refine at_bu #[(0, .const (.int .i64 140)), (1, .const (.int .i64 140))] [(0, .int .i64 140), (1, .int .i64 140)] X ?_ ?_ ?_ bX.out ?_); kernel_rfl; rfl; kernel_rfl)
            | ((with_reducible refine wpList_store_mid ?_ 30 (.tmp 134) (.tmp 133) ?_ g (NN * 2) X ?_ ?_ ?_ ?_ ?_ ?_); rfl; rfl; rfl; rfl; exact hth.out; exact hX1.out.2; exact hX1.out.1)
            | (go_at_call 6; refine hR3.out.mono ?_; rintro e y8 ⟨q8, c8, rfl, H8⟩)
            | (go_at_call 4; refine (awake_any y8 (T.out.below H8.out)).mono ?_; rintro e z8 ⟨rfl, h8⟩; replace h8 : Hid _ := h8))
          go_ret
          exact ⟨by first | rfl | simp, H8.out.trans (h8.out.mono H8.out.size)⟩
        · have qs : decide (195 < P1 + P2) = true := by simp; omega
          have qn : 195 < P1 + P2 := by omega
          rw [hb1] at hfl2
          have eW : (wv (1 - 1)) = (56, 56) := rfl
          rw [eW] at hfl2
          have hR2 : Hid (∀ y, Tq y → L2 y (some ⟨g, 0, none⟩) (P.set NN (56, 56)) → Calls Tryd.prog 6 #[.slice (some ⟨g, 0, none⟩) m ca, .int .i64 (n : Int)] y fun e w' => ∃ q c, e = .returned (.tuple #[.slice q 0 c, .int .i64 121, .int .i64 (3 + (j9 : Int) * 10 + 9)]) ∧ Hid (Below y.heap.size y w')) := fun y ht h => by
            have := hP.out y (some ⟨g, 0, none⟩) ca (P.set NN (56, 56)) ht (by rw [List.length_set]; exact hPl.out) h
            rw [hfl2] at this
            refine this.mono ?_
            rintro e w' ⟨v, rfl, H⟩
            obtain ⟨q, c, rfl, -⟩ := H.out.own.open kByte.len
            exact ⟨q, c, by push_cast; rfl, H.out.low⟩
          clear f5 hb1 hfl2 hP
          obtain ⟨X, hX⟩ : ∃ X, (c2 (56, 56)).toArray = X := ⟨_, rfl⟩
          have bX : Hid (Tryd.prog.built 30 [(0, .int .i64 56), (1, .int .i64 56)] = some X) := by rw [← hX]; exact builtWa 56 56
          have hX1 : Hid (X.all (·.oneCell') = true ∧ (Tryd.prog.info? 30).map (·.size) = some X.size) := by rw [← hX]; exact ⟨c2_all _, rtWa.i⟩
          have hst : Hid (∀ u, KL 30 2 c2 w (.slice (some ⟨g, 0, none⟩) m ca) P u → KL 30 2 c2 w (.slice (some ⟨g, 0, none⟩) m ca) (P.set NN (56, 56)) (u.setCells g (NN * 2) X.toList) ∧ u.there g (NN * 2) X.size) := fun u hu => by
            obtain ⟨h1, h2, h3⟩ := hu.own.set kWave.len NN (by rw [hPl.out]; exact hNm'.out) (56, 56)
            rw [← hX]
            exact ⟨⟨h1, hu.low.trans (setCellsL_below _ g h3 _ _ _)⟩, h2⟩
          clear hX
          go_wp2
          go_quiet (fail)
          have K6 := hst.out (y5.drewN nq) (L5.out.below (below_drewN (Below.refl _ _)))
          have hth : Hid (World.there (y5.drewN nq) g (NN * 2) X.size) := K6.2
          have K7 : Hid _ := K6.1
          clear K6 x1 x2 v1 v2 L5
          generalize y5.drewN nq = z6 at hth K7 ⊢
          obtain ⟨z7, hz7⟩ : ∃ z, z6.setCells g (NN * 2) X.toList = z := ⟨_, rfl⟩
          have hR3 : Hid (Calls Tryd.prog 6 #[.slice (some ⟨g, 0, none⟩) m ca, .int .i64 (n : Int)] (z6.setCells g (NN * 2) X.toList) fun e w' => ∃ q c, e = .returned (.tuple #[.slice q 0 c, .int .i64 121, .int .i64 (3 + (j9 : Int) * 10 + 9)]) ∧ Hid (Below w.heap.size w w')) := by
            obtain ⟨p9, c9, e9, l9, -⟩ := K7.out.own.open kWave.len
            injection e9 with e1 e2 e3
            subst e1
            clear e2 e3
            refine (hR2.out _ (T.out.below K7.out.low) l9).mono ?_
            rintro e w' ⟨q, c, rfl, H⟩
            exact ⟨q, c, rfl, K7.out.low.trans (H.out.mono K7.out.low.size)⟩
          clear hz7 z7 hR2
          go_wp2_with (first
            | ((with_reducible refine at_bu #[(0, .const (.int .i64 56)), (1, .const (.int .i64 56))] [(0, .int .i64 56), (1, .int .i64 56)] X ?_ ?_ ?_ bX.out ?_); kernel_rfl; rfl; kernel_rfl)
            | ((with_reducible refine wpList_store_mid ?_ 30 (.tmp 130) (.tmp 129) ?_ g (NN * 2) X ?_ ?_ ?_ ?_ ?_ ?_); rfl; rfl; rfl; rfl; exact hth.out; exact hX1.out.2; exact hX1.out.1)
            | (go_at_call 6; refine hR3.out.mono ?_; rintro e y8 ⟨q8, c8, rfl, H8⟩)
            | (go_at_call 4; refine (awake_any y8 (T.out.below H8.out)).mono ?_; rintro e z8 ⟨rfl, h8⟩; replace h8 : Hid _ := h8))
          go_ret
          exact ⟨by first | rfl | simp, H8.out.trans (h8.out.mono H8.out.size)⟩
    · have hji : ¬ (j : Int) < 10 * (n : Int) + 3 := by omega
      have hji' : ¬ j < m := hlt
      clear hlt
      obtain ⟨p9, c9, e9, l9, -⟩ := K.out.own.open kWave.len
      injection e9 with e1 e2 e3
      subst e1
      clear e2 e3
      have l9' : Hid (L2 y0 (some ⟨g, 0, none⟩) P) := l9
      have hR1 := hP.out y0 (some ⟨g, 0, none⟩) ca P (T.out.below K.out.low) J.out.2.1 l9
      rw [hrd.out P J.out.2.2.bits] at hR1
      obtain ⟨FW, hFW⟩ : ∃ x, bits .and .i64 at' 1048575 = x := ⟨_, rfl⟩
      have hFb : 0 ≤ FW ∧ FW ≤ 1048575 := by rw [← hFW]; exact and_20 at'
      obtain ⟨kk, hkk⟩ : ∃ kk : Nat, FW.tmod (9 * (n : Int)) = (kk : Int) := ⟨(FW.tmod (9 * (n : Int))).toNat, by
        have h := Int.tmod_nonneg (9 * (n : Int)) hFb.1
        omega⟩
      have hkn : kk < 9 * n := by
        have := Int.tmod_lt_of_pos FW (show (0 : Int) < 9 * (n : Int) by omega)
        omega
      obtain ⟨j9, hj9⟩ : ∃ x, kk / 9 = x := ⟨_, rfl⟩
      obtain ⟨t9, ht9⟩ : ∃ x, kk % 9 = x := ⟨_, rfl⟩
      have hq9 : (kk : Int).tdiv 9 = (j9 : Int) := by rw [Int.tdiv_eq_ediv_of_nonneg (by omega), ← hj9]; omega
      have hr9 : (kk : Int).tmod 9 = (t9 : Int) := by rw [Int.tmod_eq_emod_of_nonneg (by omega), ← ht9]; omega
      have hj9b : (j9 : Int) ≤ 1000 := by omega
      have ht9b : (t9 : Int) ≤ 8 := by omega
      obtain ⟨NN, hNN⟩ : ∃ x, 3 + j9 * 10 + 1 + t9 = x := ⟨_, rfl⟩
      have hNm : NN < m := by have := hm'.out; omega
      obtain ⟨p, hp⟩ : ∃ p, P[NN]? = some p := ⟨_, List.getElem?_eq_getElem (by rw [J.out.2.1]; exact hNm)⟩
      obtain ⟨hpb, hfl2⟩ := hfl.out P kk NN p J.out.2.2.bits hkn (by rw [hj9, ht9]; exact hNN.symm) hp
      rw [hj9] at hfl2
      obtain ⟨f1, f2, f3, f4, f5⟩ := bit_facts p hpb
      have iN : ∀ u, (Instr.indexAt 25 (.slice (some ⟨g, 0, none⟩) m ca) (.int .i64 (3 + (j9 : Int) * 10 + 1 + (t9 : Int)))).run Tryd.prog u = .ok (.pointer (some ⟨g, NN * 2, none⟩)) u := fun u => by
        have := idxP (g := g) (off := 0) (len := m) (cap := ca) Tryd.underlying25 (s := 2) (by kernel_rfl) .i64 NN u hNm
        rw [Nat.zero_add, show ((NN : Nat) : Int) = 3 + (j9 : Int) * 10 + 1 + (t9 : Int) by omega] at this
        exact this
      have dnz : (9 * (n : Int) == 0) = false := by simp; have := hm'.out; omega
      have hPl : Hid (P.length = m) := J.out.2.1
      have hp' : Hid (P[NN]? = some p) := hp
      have hNm' : Hid (NN < m) := hNm
      have hbl2 := hbl.out
      have v0 := hcv
      clear hrd hfl hNN hkn hFb l9 ho' hok hwv hp hj9 ht9
      go_wp2_with (go_at_call 6; refine hR1.mono ?_; rintro e y5 ⟨v5, rfl, H5⟩; refine stopAt ?_)
      obtain ⟨p5, c5, rfl, l5, -⟩ := H5.out.own.open kByte.len
      have L5 : Hid (KL 30 2 c2 w (.slice (some ⟨g, 0, none⟩) m ca) P y5) := K.out.below H5.out.low
      rw [hbl2]
      have v1 := hcv.out y5 p5 c5 l5
      have v2 := hcv.out y5 sb cb (hl.out.below L5.out.low)
      clear v0 l5 hR1 hcv
      obtain ⟨x1, x2⟩ : y5.cell? ⟨g, NN * 2, none⟩ = some (.int .i64 p.1) ∧ y5.cell? ⟨g, NN * 2 + 1, none⟩ = some (.int .i64 p.2) := by
        obtain ⟨g8, o8, e8, _, z1, z2⟩ := l2_at (l9'.out.below H5.out.low) NN p hp'.out
        cases e8
        simp only [Nat.zero_add] at z1 z2
        exact ⟨z1, z2⟩
      obtain ⟨P1, hP1⟩ : ∃ x, p.1 = x := ⟨_, rfl⟩
      obtain ⟨P2, hP2⟩ : ∃ x, p.2 = x := ⟨_, rfl⟩
      rw [hP1] at x1 f1 f2 f5
      rw [hP2] at x2 f3 f4 f5
      clear H5 K l9' J
      refine Stop.go ?_
      have sum0 : 0 ≤ P1 + P2 := by omega
      rcases hpb with hb0 | hb1
      · have qs : decide (195 < P1 + P2) = false := by simp; omega
        have qn : ¬ 195 < P1 + P2 := by omega
        rw [hb0] at hfl2
        have eW : (wv (1 - 0)) = (140, 140) := rfl
        rw [eW] at hfl2
        have hR2 : Hid (∀ y, Tq y → L2 y (some ⟨g, 0, none⟩) (P.set NN (140, 140)) → Calls Tryd.prog 6 #[.slice (some ⟨g, 0, none⟩) m ca, .int .i64 (n : Int)] y fun e w' => ∃ q c, e = .returned (.tuple #[.slice q 0 c, .int .i64 121, .int .i64 (3 + (j9 : Int) * 10 + 9)]) ∧ Hid (Below y.heap.size y w')) := fun y ht h => by
          have := hP.out y (some ⟨g, 0, none⟩) ca (P.set NN (140, 140)) ht (by rw [List.length_set]; exact hPl.out) h
          rw [hfl2] at this
          refine this.mono ?_
          rintro e w' ⟨v, rfl, H⟩
          obtain ⟨q, c, rfl, -⟩ := H.out.own.open kByte.len
          exact ⟨q, c, by push_cast; rfl, H.out.low⟩
        clear f5 hb0 hfl2 hP
        obtain ⟨X, hX⟩ : ∃ X, (c2 (140, 140)).toArray = X := ⟨_, rfl⟩
        have bX : Hid (Tryd.prog.built 30 [(0, .int .i64 140), (1, .int .i64 140)] = some X) := by rw [← hX]; exact builtWa 140 140
        have hX1 : Hid (X.all (·.oneCell') = true ∧ (Tryd.prog.info? 30).map (·.size) = some X.size) := by rw [← hX]; exact ⟨c2_all _, rtWa.i⟩
        have hst : Hid (∀ u, KL 30 2 c2 w (.slice (some ⟨g, 0, none⟩) m ca) P u → KL 30 2 c2 w (.slice (some ⟨g, 0, none⟩) m ca) (P.set NN (140, 140)) (u.setCells g (NN * 2) X.toList) ∧ u.there g (NN * 2) X.size) := fun u hu => by
          obtain ⟨h1, h2, h3⟩ := hu.own.set kWave.len NN (by rw [hPl.out]; exact hNm'.out) (140, 140)
          rw [← hX]
          exact ⟨⟨h1, hu.low.trans (setCellsL_below _ g h3 _ _ _)⟩, h2⟩
        clear hX
        go_wp2
        go_quiet (fail)
        have K6 := hst.out (y5.drewN nq) (L5.out.below (below_drewN (Below.refl _ _)))
        have hth : Hid (World.there (y5.drewN nq) g (NN * 2) X.size) := K6.2
        have K7 : Hid _ := K6.1
        clear K6 x1 x2 v1 v2 L5
        generalize y5.drewN nq = z6 at hth K7 ⊢
        obtain ⟨z7, hz7⟩ : ∃ z, z6.setCells g (NN * 2) X.toList = z := ⟨_, rfl⟩
        have hR3 : Hid (Calls Tryd.prog 6 #[.slice (some ⟨g, 0, none⟩) m ca, .int .i64 (n : Int)] (z6.setCells g (NN * 2) X.toList) fun e w' => ∃ q c, e = .returned (.tuple #[.slice q 0 c, .int .i64 121, .int .i64 (3 + (j9 : Int) * 10 + 9)]) ∧ Hid (Below w.heap.size w w')) := by
          obtain ⟨p9, c9, e9, l9, -⟩ := K7.out.own.open kWave.len
          injection e9 with e1 e2 e3
          subst e1
          clear e2 e3
          refine (hR2.out _ (T.out.below K7.out.low) l9).mono ?_
          rintro e w' ⟨q, c, rfl, H⟩
          exact ⟨q, c, rfl, K7.out.low.trans (H.out.mono K7.out.low.size)⟩
        clear hz7 z7 hR2
        go_wp2_with (first
          | ((with_reducible refine at_bu #[(0, .const (.int .i64 140)), (1, .const (.int .i64 140))] [(0, .int .i64 140), (1, .int .i64 140)] X ?_ ?_ ?_ bX.out ?_); kernel_rfl; rfl; kernel_rfl)
          | ((with_reducible refine wpList_store_mid ?_ 30 (.tmp 134) (.tmp 133) ?_ g (NN * 2) X ?_ ?_ ?_ ?_ ?_ ?_); rfl; rfl; rfl; rfl; exact hth.out; exact hX1.out.2; exact hX1.out.1)
          | (go_at_call 6; refine hR3.out.mono ?_; rintro e y8 ⟨q8, c8, rfl, H8⟩)
          | (go_at_call 4; refine (awake_any y8 (T.out.below H8.out)).mono ?_; rintro e z8 ⟨rfl, h8⟩; replace h8 : Hid _ := h8))
        go_ret
        exact ⟨by first | rfl | simp, H8.out.trans (h8.out.mono H8.out.size)⟩
      · have qs : decide (195 < P1 + P2) = true := by simp; omega
        have qn : 195 < P1 + P2 := by omega
        rw [hb1] at hfl2
        have eW : (wv (1 - 1)) = (56, 56) := rfl
        rw [eW] at hfl2
        have hR2 : Hid (∀ y, Tq y → L2 y (some ⟨g, 0, none⟩) (P.set NN (56, 56)) → Calls Tryd.prog 6 #[.slice (some ⟨g, 0, none⟩) m ca, .int .i64 (n : Int)] y fun e w' => ∃ q c, e = .returned (.tuple #[.slice q 0 c, .int .i64 121, .int .i64 (3 + (j9 : Int) * 10 + 9)]) ∧ Hid (Below y.heap.size y w')) := fun y ht h => by
          have := hP.out y (some ⟨g, 0, none⟩) ca (P.set NN (56, 56)) ht (by rw [List.length_set]; exact hPl.out) h
          rw [hfl2] at this
          refine this.mono ?_
          rintro e w' ⟨v, rfl, H⟩
          obtain ⟨q, c, rfl, -⟩ := H.out.own.open kByte.len
          exact ⟨q, c, by push_cast; rfl, H.out.low⟩
        clear f5 hb1 hfl2 hP
        obtain ⟨X, hX⟩ : ∃ X, (c2 (56, 56)).toArray = X := ⟨_, rfl⟩
        have bX : Hid (Tryd.prog.built 30 [(0, .int .i64 56), (1, .int .i64 56)] = some X) := by rw [← hX]; exact builtWa 56 56
        have hX1 : Hid (X.all (·.oneCell') = true ∧ (Tryd.prog.info? 30).map (·.size) = some X.size) := by rw [← hX]; exact ⟨c2_all _, rtWa.i⟩
        have hst : Hid (∀ u, KL 30 2 c2 w (.slice (some ⟨g, 0, none⟩) m ca) P u → KL 30 2 c2 w (.slice (some ⟨g, 0, none⟩) m ca) (P.set NN (56, 56)) (u.setCells g (NN * 2) X.toList) ∧ u.there g (NN * 2) X.size) := fun u hu => by
          obtain ⟨h1, h2, h3⟩ := hu.own.set kWave.len NN (by rw [hPl.out]; exact hNm'.out) (56, 56)
          rw [← hX]
          exact ⟨⟨h1, hu.low.trans (setCellsL_below _ g h3 _ _ _)⟩, h2⟩
        clear hX
        go_wp2
        go_quiet (fail)
        have K6 := hst.out (y5.drewN nq) (L5.out.below (below_drewN (Below.refl _ _)))
        have hth : Hid (World.there (y5.drewN nq) g (NN * 2) X.size) := K6.2
        have K7 : Hid _ := K6.1
        clear K6 x1 x2 v1 v2 L5
        generalize y5.drewN nq = z6 at hth K7 ⊢
        obtain ⟨z7, hz7⟩ : ∃ z, z6.setCells g (NN * 2) X.toList = z := ⟨_, rfl⟩
        have hR3 : Hid (Calls Tryd.prog 6 #[.slice (some ⟨g, 0, none⟩) m ca, .int .i64 (n : Int)] (z6.setCells g (NN * 2) X.toList) fun e w' => ∃ q c, e = .returned (.tuple #[.slice q 0 c, .int .i64 121, .int .i64 (3 + (j9 : Int) * 10 + 9)]) ∧ Hid (Below w.heap.size w w')) := by
          obtain ⟨p9, c9, e9, l9, -⟩ := K7.out.own.open kWave.len
          injection e9 with e1 e2 e3
          subst e1
          clear e2 e3
          refine (hR2.out _ (T.out.below K7.out.low) l9).mono ?_
          rintro e w' ⟨q, c, rfl, H⟩
          exact ⟨q, c, rfl, K7.out.low.trans (H.out.mono K7.out.low.size)⟩
        clear hz7 z7 hR2
        go_wp2_with (first
          | ((with_reducible refine at_bu #[(0, .const (.int .i64 56)), (1, .const (.int .i64 56))] [(0, .int .i64 56), (1, .int .i64 56)] X ?_ ?_ ?_ bX.out ?_); kernel_rfl; rfl; kernel_rfl)
          | ((with_reducible refine wpList_store_mid ?_ 30 (.tmp 130) (.tmp 129) ?_ g (NN * 2) X ?_ ?_ ?_ ?_ ?_ ?_); rfl; rfl; rfl; rfl; exact hth.out; exact hX1.out.2; exact hX1.out.1)
          | (go_at_call 6; refine hR3.out.mono ?_; rintro e y8 ⟨q8, c8, rfl, H8⟩)
          | (go_at_call 4; refine (awake_any y8 (T.out.below H8.out)).mono ?_; rintro e z8 ⟨rfl, h8⟩; replace h8 : Hid _ := h8))
        go_ret
        exact ⟨by first | rfl | simp, H8.out.trans (h8.out.mono H8.out.size)⟩
end Go.Proofs.YtdfjfacilbahkabDoor
