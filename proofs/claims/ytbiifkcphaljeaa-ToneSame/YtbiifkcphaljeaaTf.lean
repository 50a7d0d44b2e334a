/- The statement that levels tell Q and nothing else: the walk. -/
import Derived.Test.YtbiifkcphaljeaaTd
namespace Go.Proofs.Ytbiifkcphaljeaa
open Go Go.RowKit
set_option linter.unusedVariables false
set_option maxHeartbeats 2000000
set_option maxRecDepth 20000

theorem same_walk (w : World) (sa sb : Option Addr) (ca cb : Nat) (a b : List Rc) (ha : Hid (LiesR w sa a)) (hb : Hid (LiesR w sb b)) (hna : a.length ≤ maxLen) (hnb : b.length ≤ maxLen) :
    Calls Try.prog 7 #[.slice sa a.length ca, .slice sb b.length cb] w fun e w' => e = .returned (.bool true) ∧ Below w.heap.size w w' := by
  have hna : a.length ≤ 9223372036854775807 := by unfold maxLen at hna; omega
  have hnb : b.length ≤ 9223372036854775807 := by unfold maxLen at hnb; omega
  obtain ⟨n, hn'⟩ : ∃ n, a.length = n := ⟨_, rfl⟩
  obtain ⟨m, hm'⟩ : ∃ m, b.length = m := ⟨_, rfl⟩
  have ni : (n : Int) ≤ 9223372036854775807 := by omega
  have mi : (m : Int) ≤ 9223372036854775807 := by omega
  by_cases hbig : 2147483647 < n
  · have q : decide ((2147483647 : Int) < n) = true := by simp; omega
    rw [hn', hm']
    clear hbig hna hnb hn' hm'
    go_enter Try.func7, Try.ntmps7
    go_wp2
    go_ret
    exact ⟨rfl, Below.refl _ _⟩
  have q : decide ((2147483647 : Int) < n) = false := by simp; omega
  by_cases hbig2 : 2147483647 < m
  · have q2 : decide ((2147483647 : Int) < m) = true := by simp; omega
    rw [hn', hm']
    clear hbig hbig2 hna hnb hn' hm'
    go_enter Try.func7, Try.ntmps7
    go_wp2
    go_ret
    exact ⟨rfl, Below.refl _ _⟩
  have q2 : decide ((2147483647 : Int) < m) = false := by simp; omega
  have hA : Hid (∀ y : World, LiesR y sa a → Calls Try.prog 15 #[.slice sa n ca] y fun e w' => ∃ v, e = .returned v ∧ Hid (KL 3 1 cI y v (levels (a.map (·.q))) w')) := fun y h => by
    have := plev_any y sa ca a h (by omega)
    rw [hn'] at this
    exact this
  have hB : Hid (∀ y : World, LiesR y sb b → Calls Try.prog 15 #[.slice sb m cb] y fun e w' => ∃ v, e = .returned v ∧ Hid (KL 3 1 cI y v (levels (b.map (·.q))) w')) := fun y h => by
    have := plev_any y sb cb b h (by omega)
    rw [hm'] at this
    exact this
  have hla : Hid ((a.map (·.q)).length = n ∧ (b.map (·.q)).length = m) := ⟨by rw [List.length_map, hn'], by rw [List.length_map, hm']⟩
  have hqa : Hid (∀ (j : Nat) (c : Bool), (a.map (·.q))[j]? = some c → ∃ g o, sa = some ⟨g, o, none⟩ ∧ w.cell? ⟨g, o + j * 8 + 6, none⟩ = some (.bool c)) := fun j c h => ha.out.q j c h
  have hqb : Hid (∀ (j : Nat) (c : Bool), (b.map (·.q))[j]? = some c → ∃ g o, sb = some ⟨g, o, none⟩ ∧ w.cell? ⟨g, o + j * 8 + 6, none⟩ = some (.bool c)) := fun j c h => hb.out.q j c h
  obtain ⟨qa, eqa⟩ : ∃ x, a.map (·.q) = x := ⟨_, rfl⟩
  obtain ⟨qb, eqb⟩ : ∃ x, b.map (·.q) = x := ⟨_, rfl⟩
  rw [eqa] at hA hla hqa
  rw [eqb] at hB hla hqb
  have hva := levels_len qa
  have hvb := levels_len qb
  rw [hla.out.1] at hva
  rw [hla.out.2] at hvb
  have hS : Hid (∀ (y : World) (p q : Option Addr) (c d : Nat), LI y p (levels qa) → LI y q (levels qb) → Calls Try.prog 17 #[.slice p (levels qa).length c, .slice q (levels qb).length d] y fun e w' => e = .returned (.bool (decide (qa = qb))) ∧ Below y.heap.size y w') := fun y p q c d h1 h2 => by
    have := sameInts_any y p q c d (levels qa) (levels qb) h1 h2 (by omega) (by omega)
    have e : decide (levels qa = levels qb) = decide (qa = qb) := by rw [decide_eq_decide]; exact ⟨levels_inj, fun e => by rw [e]⟩
    rw [e] at this
    exact this
  obtain ⟨VA, eVA⟩ : ∃ x, levels qa = x := ⟨_, rfl⟩
  obtain ⟨VB, eVB⟩ : ∃ x, levels qb = x := ⟨_, rfl⟩
  rw [eVA] at hA hS
  rw [eVB] at hB hS
  obtain ⟨R, hR⟩ : ∃ R, decide (qa = qb) = R := ⟨_, rfl⟩
  rw [hR] at hS
  replace hR : Hid _ := hR
  rw [hn', hm']
  clear hbig hbig2 hna hnb hn' hm' eqa eqb hva hvb eVA eVB
  obtain ⟨b0, hb0⟩ : ∃ b0, ((n : Int) == m) = b0 := ⟨_, rfl⟩
  have hb0' : Hid ((b0 = true → n = m) ∧ (b0 = false → qa ≠ qb)) := ⟨fun h => by rw [h] at hb0; simp at hb0; omega, fun h e => by rw [h] at hb0; simp at hb0; apply hb0; rw [← hla.out.1, ← hla.out.2, e]⟩
  go_enter Try.func7, Try.ntmps7
  go_wp2
  go_loopw [5, 6] (fun s i wz => ∃ (j : Nat) (c : Bool) (y : World), y = wz ∧ s = .bool c ∧ i = .int .i64 (j : Int) ∧ Hid (j ≤ n ∧ (c = true → n = m ∧ qa.take j = qb.take j) ∧ (c = false → qa ≠ qb)) ∧ Hid (Below w.heap.size w y)) (fun _ i _ => (n - intOf i).toNat)
  case atStart => exact ⟨0, b0, w, rfl, rfl, rfl, ⟨Nat.zero_le _, fun h => ⟨hb0'.out.1 h, by simp⟩, hb0'.out.2⟩, Below.refl _ _⟩
  case round =>
    obtain ⟨j, c, y, rfl, rfl, rfl, J, U⟩ := hrel
    clear hb0
    cases c
    · have fin : Hid (R = false) := by
        show _ = _
        rw [← hR.out, decide_eq_false_iff_not]
        exact J.out.2.2 rfl
      by_cases hlt : (j : Int) < n
      all_goals
        go_wp2_with (first
          | (go_at_call_of 15 (Value.slice sb m cb); refine (hB.out y1 (hb.out.below K1.out)).mono ?_; rintro e y2 ⟨v2, rfl, H2⟩; have K2 : Hid (Below w.heap.size w y2) := K1.out.trans (H2.out.low.mono K1.out.size); obtain ⟨p2, c2', rfl, l2', _⟩ := H2.out.own.open kInt.len; obtain ⟨p1, c1, rfl, l1', _⟩ := (H1.out.own.below H2.out.low).open kInt.len; replace l1' : Hid (LI y2 p1 VA) := l1'; replace l2' : Hid (LI y2 p2 VB) := l2')
          | (go_at_call_of 15 (Value.slice sa n ca); refine (hA.out y (ha.out.below U.out)).mono ?_; rintro e y1 ⟨v1, rfl, H1⟩; have K1 : Hid (Below w.heap.size w y1) := U.out.trans (H1.out.low.mono U.out.size))
          | (go_at_call 17; refine (hS.out y2 p1 p2 c1 c2' l1'.out l2'.out).mono ?_; rintro e y3 ⟨rfl, h3⟩; have K3 : Hid (Below w.heap.size w y3) := K2.out.trans (h3.mono K2.out.size); clear h3; rw [fin.out])
          | (go_at_call 11; refine (awake_any y3).mono ?_; rintro e y4 ⟨rfl, h4⟩; replace h4 : Hid _ := h4))
        go_ret
        exact ⟨by first | rfl | simp, K3.out.trans (h4.out.mono K3.out.size)⟩
    · obtain ⟨hnm, htk⟩ := J.out.2.1 rfl
      subst hnm
      replace htk : Hid _ := htk
      by_cases hlt : j < n
      · obtain ⟨x, hx, _⟩ := at_list hla.out.1 hlt
        obtain ⟨z, hz, _⟩ := at_list hla.out.2 hlt
        obtain ⟨ga, oa, rfl, ra⟩ := hqa.out j x hx
        obtain ⟨gb, ob, rfl, rb⟩ := hqb.out j z hz
        have R1 : Hid (w.cell? ⟨ga, oa + j * 8 + 6, none⟩ = some (.bool x)) := ra
        have R2 : Hid (w.cell? ⟨gb, ob + j * 8 + 6, none⟩ = some (.bool z)) := rb
        have i1 := fun u => idxP (g := ga) (off := oa) (len := n) (cap := ca) Try.underlying22 (s := 8) (by kernel_rfl) .i64 j u hlt
        have i2 := fun u => idxP (g := gb) (off := ob) (len := n) (cap := cb) Try.underlying22 (s := 8) (by kernel_rfl) .i64 j u hlt
        have hji : (j : Int) < n := by omega
        have hlt' : Hid (j < n) := hlt
        obtain ⟨c, hc⟩ : ∃ c, (x == z) = c := ⟨_, rfl⟩
        have hrel2 : Hid ((c = true → n = n ∧ qa.take (j + 1) = qb.take (j + 1)) ∧ (c = false → qa ≠ qb)) := ⟨fun h => ⟨rfl, take_step htk.out hx hz (by rw [h] at hc; simpa using hc)⟩, fun h e => by
          rw [e, hz] at hx
          have := Option.some.inj hx
          rw [h, this] at hc
          simp at hc⟩
        clear hlt hx hz ra rb
        go_wp2
        refine region_class_tail 10 (Below w.heap.size w) (by kernel_rfl) (by kernel_rfl) (U.out.trans (below_drew (Below.refl _ _))) ?_
        simp only [List.take_succ_cons, List.take_zero, List.drop_succ_cons, List.drop_zero]
        with_reducible refine quiet_one (.slice (some ⟨ga, oa, none⟩) n ca) ?_ ?_ ?_
        · kernel_rfl
        · intro u hy
          go_simp
        with_reducible refine quiet_one (.int .i64 (j : Int)) ?_ ?_ ?_
        · kernel_rfl
        · intro u hy
          go_simp
        with_reducible refine quiet_one (.pointer (some ⟨ga, oa + j * 8, none⟩)) ?_ ?_ ?_
        · kernel_rfl
        · intro u hy
          go_simp
        with_reducible refine quiet_one (.pointer (some ⟨ga, oa + j * 8 + 6, none⟩)) ?_ ?_ ?_
        · kernel_rfl
        · intro u hy
          go_simp
        with_reducible refine quiet_one (.bool x) ?_ ?_ ?_
        · kernel_rfl
        · intro u hy
          have c0 := (hy.cell (p := ⟨ga, oa + j * 8 + 6, none⟩) (World.block_lt_of_cell? w _ R1.out)).trans R1.out
          go_simp
        with_reducible refine quiet_one (.slice (some ⟨gb, ob, none⟩) n cb) ?_ ?_ ?_
        · kernel_rfl
        · intro u hy
          go_simp
        with_reducible refine quiet_one (.int .i64 (j : Int)) ?_ ?_ ?_
        · kernel_rfl
        · intro u hy
          go_simp
        with_reducible refine quiet_one (.pointer (some ⟨gb, ob + j * 8, none⟩)) ?_ ?_ ?_
        · kernel_rfl
        · intro u hy
          go_simp
        with_reducible refine quiet_one (.pointer (some ⟨gb, ob + j * 8 + 6, none⟩)) ?_ ?_ ?_
        · kernel_rfl
        · intro u hy
          go_simp
        with_reducible refine quiet_one (.bool z) ?_ ?_ ?_
        · kernel_rfl
        · intro u hy
          have c0 := (hy.cell (p := ⟨gb, ob + j * 8 + 6, none⟩) (World.block_lt_of_cell? w _ R2.out)).trans R2.out
          go_simp
        refine wpQuiet_nil ?_
        intro z0 U0
        replace U0 : Hid _ := U0
        go_simp
        go_wp2
        go_roundw
        case rel => exact ⟨j + 1, c, _, rfl, by first | rfl | (rw [hc]), by simp, ⟨hlt'.out, hrel2.out.1, hrel2.out.2⟩, U0⟩
        case measure => have := hlt'.out; simp [intOf]; omega
      · have fin : Hid (R = true) := by
          show _ = _
          rw [← hR.out, decide_eq_true_eq]
          have h := htk.out
          rwa [List.take_of_length_le (by have := hla.out.1; omega), List.take_of_length_le (by have := hla.out.2; omega)] at h
        have hji : ¬ (j : Int) < n := by omega
        clear hlt
        go_wp2_with (first
          | (go_at_call 15; refine (hB.out y1 (hb.out.below K1.out)).mono ?_; rintro e y2 ⟨v2, rfl, H2⟩; have K2 : Hid (Below w.heap.size w y2) := K1.out.trans (H2.out.low.mono K1.out.size); obtain ⟨p2, c2', rfl, l2', _⟩ := H2.out.own.open kInt.len; obtain ⟨p1, c1, rfl, l1', _⟩ := (H1.out.own.below H2.out.low).open kInt.len; replace l1' : Hid (LI y2 p1 VA) := l1'; replace l2' : Hid (LI y2 p2 VB) := l2')
          | (go_at_call 15; refine (hA.out y (ha.out.below U.out)).mono ?_; rintro e y1 ⟨v1, rfl, H1⟩; have K1 : Hid (Below w.heap.size w y1) := U.out.trans (H1.out.low.mono U.out.size))
          | (go_at_call 17; refine (hS.out y2 p1 p2 c1 c2' l1'.out l2'.out).mono ?_; rintro e y3 ⟨rfl, h3⟩; have K3 : Hid (Below w.heap.size w y3) := K2.out.trans (h3.mono K2.out.size); clear h3; rw [fin.out])
          | (go_at_call 11; refine (awake_any y3).mono ?_; rintro e y4 ⟨rfl, h4⟩; replace h4 : Hid _ := h4))
        go_ret
        exact ⟨by first | rfl | simp, K3.out.trans (h4.out.mono K3.out.size)⟩
end Go.Proofs.Ytbiifkcphaljeaa
