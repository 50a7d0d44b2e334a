/- ScriptChecks' walk. -/
import Derived.Test.YthpahpfnpapoiaaDoorXg
import Derived.Test.YthpahpfnpapoiaaDoorZe
import Derived.Test.YthpahpfnpapoiaaDoorXz
namespace Go.Proofs.YthpahpfnpapoiaaDoor
open Go Go.RowKit
set_option linter.unusedVariables false
set_option maxHeartbeats 1000000
set_option maxRecDepth 20000

theorem checks_walk (w : World) (tb : Hid (Tp w)) (sp : Option Addr) (cap : Nat) (l : List Sn) (hl : Hid (LiesS w sp l)) (hn : l.length ≤ 9223372036854775807) (hk : Hid (∀ s ∈ l, Rg s.a)) :
    Calls Tryd.prog 4 #[.slice sp l.length cap] w fun e w' => e = .returned (.bool true) ∧ Below w.heap.size w w' := by
  obtain ⟨n, hn'⟩ : ∃ n, l.length = n := ⟨_, rfl⟩
  have ni : (n : Int) ≤ 9223372036854775807 := by omega
  by_cases hbig : 2147483647 < n
  · rw [hn']
    have q : decide ((2147483647 : Int) < n) = true := by simp; omega
    clear hbig hn hn'
    go_enter Tryd.func4, Tryd.ntmps4
    go_wp2
    go_ret
    exact ⟨rfl, Below.refl _ _⟩
  have q : decide ((2147483647 : Int) < n) = false := by simp; omega
  have hn2 : l.length ≤ 2147483647 := by omega
  have hL := lent_any w sp cap l hl hn2
  have hBk : Hid (∀ y, LntS w w.heap.size l y → Calls Tryd.prog 13 #[.slice (some ⟨w.heap.size, 0, none⟩) n (n + 1), .slice sp n cap] y fun e w' => e = .returned (.bool true) ∧ Cu w.heap.size (fun q _ => q = w.heap.size) y w') := fun y h => by
    have := back_any w y w.heap.size sp cap l (Nat.le_refl _) h (hl.out.below h.low) hn2
    rw [hn'] at this
    exact this
  have hW := awake_any
  have hP : Hid (∀ y, LntS w w.heap.size l y → Calls Tryd.prog 11 #[.slice (some ⟨w.heap.size, 0, none⟩) n (n + 1)] y fun e w' => e = .returned (.int .i64 (checkS l)) ∧ Below y.heap.size y w') := fun y h => by
    have := check_any y (some ⟨w.heap.size, 0, none⟩) (n + 1) l h.lies hn2
    rw [hn'] at this
    exact this
  have hQ : Hid (∀ y, LntS w w.heap.size l y → Calls Tryd.prog 12 #[.slice (some ⟨w.heap.size, 0, none⟩) n (n + 1)] y fun e w' => e = .returned (.tuple #[.int .i64 (cyclesS l), .int .i64 (checkS l)]) ∧ Below y.heap.size y w') := fun y h => by
    have := cycles_any y (some ⟨w.heap.size, 0, none⟩) (n + 1) l h.lies hn2
    rw [hn'] at this
    exact this
  have hR : Hid (∀ y, Below w.heap.size w y → Calls Tryd.prog 14 #[.slice sp n cap] y fun e w' => e = .returned (.int .i64 (checkS l)) ∧ w' = y) := fun y h => by
    have := rcheck_any y sp cap l (hl.out.below h) hn
    rw [hn'] at this
    exact this
  have hT : Hid (∀ y, Below w.heap.size w y → Calls Tryd.prog 15 #[.slice sp n cap] y fun e w' => e = .returned (.tuple #[.int .i64 (cyclesS l), .int .i64 (checkS l)]) ∧ w' = y) := fun y h => by
    have := rcycles_any y sp cap l (hl.out.below h) hn
    rw [hn'] at this
    exact this
  rw [hn'] at hL ⊢
  obtain ⟨E, hE⟩ : ∃ x, checkS l = x := ⟨_, rfl⟩
  obtain ⟨C, hC⟩ : ∃ x, cyclesS l = x := ⟨_, rfl⟩
  rw [hE] at hP hR
  rw [hE, hC] at hQ hT
  have hl' : Hid (l.length = n) := hn'
  have ni2 : (n : Int) ≤ 2147483647 := by omega
  clear hE hC hbig hn hn' hn2 ni
  go_enter Tryd.func4, Tryd.ntmps4
  go_wp2_with (first
    | (go_at_call 10; refine hL.mono ?_; rintro e1 y1 ⟨rfl, H1⟩; refine stopAt ?_))
  refine Stop.go ?_
  go_wp2_with (first
    | (go_at_call 11; refine (hP.out y1 H1.out).mono ?_; rintro e2 y2 ⟨rfl, H2⟩; have L2 : Hid (LntS w w.heap.size l y2) := H1.out.below H2; clear H2)
    | (go_at_call 12; refine (hQ.out y2 L2.out).mono ?_; rintro e3 y3 ⟨rfl, H3⟩; have L3 : Hid (LntS w w.heap.size l y3) := L2.out.below H3; clear H3; refine stopAt ?_))
  refine Stop.go ?_
  go_wp2_with (first
    | (go_at_call 13; refine (hBk.out y3 L3.out).mono ?_; rintro e4 y4 ⟨rfl, H4⟩; have B4 : Hid (Below w.heap.size w y4) := L3.out.low.trans H4.low; clear H4)
    | (go_at_call 14; refine (hR.out _ B4.out).mono ?_; rintro e5 y5 ⟨rfl, H5⟩; replace H5 := H5.symm; subst H5)
    | (go_at_call 15; refine (hT.out _ B4.out).mono ?_; rintro e5 y5 ⟨rfl, H5⟩; replace H5 := H5.symm; subst H5; refine stopAt ?_))
  refine Stop.go ?_
  go_wp2
  go_loopw [9] (fun t wz => ∃ (i : Nat) (y : World), y = wz ∧ t = .int .i64 (i : Int) ∧ Hid (i ≤ n) ∧ Hid (Below w.heap.size w y)) (fun t _ => (n - intOf t).toNat)
  case atStart => exact ⟨0, _, rfl, rfl, Nat.zero_le _, B4⟩
  case round =>
    obtain ⟨i, y, rfl, rfl, J, K⟩ := hrel
    by_cases hlt : i < n
    · have hji : (i : Int) < n := by omega
      by_cases h5 : i < 5000
      · have q5 : decide ((i : Int) < 5000) = true := by simp; omega
        obtain ⟨s, hs, hdrop⟩ := at_list hl'.out hlt
        obtain ⟨gb, ob, hsp, hR0⟩ := hl.out i s hs
        subst hsp
        have hR1 : Hid (∀ z, Below w.heap.size w z → z.rangeAt gb (ob + i * 10) (spC s).toList) := fun z hz => range_keep hR0 hz
        have ij := fun v => idxP (g := gb) (off := ob) (len := n) (cap := cap) Tryd.underlying23 (s := 10) (by kernel_rfl) .i64 i v hlt
        have m1 := fun v => mode_any v s
        have m2 := fun v => rmode_any v s
        obtain ⟨M, hM⟩ : ∃ x, modeS s.a = x := ⟨_, rfl⟩
        rw [hM] at m1 m2
        have hi' : Hid (i < n) := hlt
        replace hs : Hid _ := hs
        replace hdrop : Hid _ := hdrop
        clear hM hlt h5 hR0
        go_wp2
        refine region_class_tail 10 (fun z => Below w.heap.size w z) (by kernel_rfl) (by kernel_rfl) (K.out.trans ((below_drew (Below.refl _ _)).mono K.out.size)) ?_
        simp only [List.take_succ_cons, List.take_zero, List.drop_succ_cons, List.drop_zero]
        with_reducible refine quiet_one (.slice (some ⟨gb, ob, none⟩) n cap) ?_ ?_ ?_
        · kernel_rfl
        · intro u hy
          go_simp
        with_reducible refine quiet_one (.int .i64 (i : Int)) ?_ ?_ ?_
        · kernel_rfl
        · intro u hy
          go_simp
        with_reducible refine quiet_one (.pointer (some ⟨gb, ob + i * 10, none⟩)) ?_ ?_ ?_
        · kernel_rfl
        · intro u hy
          go_simp
        with_reducible refine quiet_one (.agg (spC s)) ?_ ?_ ?_
        · kernel_rfl
        · intro u hy
          generalize hA : Act.put _ _ _ = X
          have e1 : X.eval (.tmp 49) = .pointer (some ⟨gb, ob + i * 10, none⟩) := by rw [← hA]; go_simp
          clear hA
          exact q_loadm (C := (fun z => Below w.heap.size w z)) rtS gb (ob + i * 10) (spC s) (fun z h => hR1.out z h) rfl (.tmp 49) rfl e1 u hy
        with_reducible refine quiet_one (.int .u8 M) ?_ ?_ ?_
        · kernel_rfl
        · intro u hy
          have d := (m1 u).mono fun e w' (h : _ ∧ _) => And.intro h.1 (hy.trans (h.2.mono hy.size))
          go_simp
          all_goals exact d
        with_reducible refine quiet_one (.slice (some ⟨gb, ob, none⟩) n cap) ?_ ?_ ?_
        · kernel_rfl
        · intro u hy
          go_simp
        with_reducible refine quiet_one (.int .i64 (i : Int)) ?_ ?_ ?_
        · kernel_rfl
        · intro u hy
          go_simp
        with_reducible refine quiet_one (.pointer (some ⟨gb, ob + i * 10, none⟩)) ?_ ?_ ?_
        · kernel_rfl
        · intro u hy
          go_simp
        with_reducible refine quiet_one (.agg (spC s)) ?_ ?_ ?_
        · kernel_rfl
        · intro u hy
          generalize hA : Act.put _ _ _ = X
          have e1 : X.eval (.tmp 54) = .pointer (some ⟨gb, ob + i * 10, none⟩) := by rw [← hA]; go_simp
          clear hA
          exact q_loadm (C := (fun z => Below w.heap.size w z)) rtS gb (ob + i * 10) (spC s) (fun z h => hR1.out z h) rfl (.tmp 54) rfl e1 u hy
        with_reducible refine quiet_one (.int .u8 M) ?_ ?_ ?_
        · kernel_rfl
        · intro u hy
          have d := (m2 u).mono fun e w' (h : _ ∧ _) => And.intro h.1 (hy.trans (h.2.mono hy.size))
          go_simp
          all_goals exact d
        refine wpQuiet_nil ?_
        intro z0 Kz
        replace Kz : Hid _ := Kz
        go_simp
        go_wp2
        go_roundw
        case rel => exact ⟨i + 1, z0, rfl, by simp, hi'.out, Kz⟩
        case measure => have := hi'.out; simp [intOf]; omega
      · have q5 : decide ((i : Int) < 5000) = false := by simp; omega
        clear h5 hlt
        go_wp2_with (first
          | (go_at_call 9; refine (hW _ (tb.out.below K.out)).mono ?_; rintro e9 y9 ⟨rfl, H9⟩; have B9 : Hid (Below w.heap.size w y9) := K.out.trans (H9.mono K.out.size); clear H9))
        go_ret
        exact ⟨rfl, B9.out⟩
    · have hin : i = n := by have := J.out; omega
      subst hin
      clear hlt
      go_wp2_with (first
        | (go_at_call 9; refine (hW _ (tb.out.below K.out)).mono ?_; rintro e9 y9 ⟨rfl, H9⟩; have B9 : Hid (Below w.heap.size w y9) := K.out.trans (H9.mono K.out.size); clear H9))
      go_ret
      exact ⟨rfl, B9.out⟩
end Go.Proofs.YthpahpfnpapoiaaDoor
