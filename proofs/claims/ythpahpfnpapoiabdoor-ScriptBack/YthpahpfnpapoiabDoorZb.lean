/- ScriptBack's walk. -/
import Derived.Test.YthpahpfnpapoiabDoorZa
namespace Go.Proofs.YthpahpfnpapoiabDoor
open Go Go.RowKit
set_option linter.unusedVariables false
set_option maxHeartbeats 1000000
set_option maxRecDepth 20000

theorem strL_of (l : List UInt8) : strL ⟨l.toArray⟩ = l := by simp [strL]
theorem back_walk (w : World) (tb : Hid (Tp w)) (sp : Option Addr) (cap : Nat) (l : List Sn) (hl : Hid (LiesS w sp l)) (hn : l.length ≤ 9223372036854775807) (hk : Hid (∀ s ∈ l, Rg s.a)) (text : ByteArray) (hs : text.size ≤ 9223372036854775807) :
    Calls Tryd.prog 4 #[.slice sp l.length cap, .string text] w fun e w' => e = .returned (.bool true) ∧ Below w.heap.size w w' := by
  obtain ⟨n, hn'⟩ : ∃ n, l.length = n := ⟨_, rfl⟩
  have ni : (n : Int) ≤ 9223372036854775807 := by omega
  by_cases hbig : 2147483647 < n
  · rw [hn']
    have q : decide ((2147483647 : Int) < n) = true := by simp; omega
    clear hbig hn hn'
    go_enter Tryd.func4, Tryd.ntmps4
    go_wp2
    go_ret
    exact ⟨rfl, Below.refl _ _⟩
  have q : decide ((2147483647 : Int) < n) = false := by simp; omega
  have hn2 : l.length ≤ 2147483647 := by omega
  have hP := print_any w tb sp cap l hl hn2 hk
  have hT : Hid _ := fun v ht => parse_any v ht text hs
  have hW := awake_any
  have hl1 := parse_len (strL text)
  have hQ0 := fun v ht => parse_any v ht (printB l)
  have fact : printE l = 0 → (printB l).size ≤ 65536 ∧ parseS (strL (printB l)) = (l, 0, 0) := fun h => by
    have e : printB l = ⟨(printL l).toArray⟩ := by unfold printB; rw [if_pos h]
    have hc : checkS l = 0 := by
      by_cases hc : checkS l = 0
      · exact hc
      · unfold printE at h; rw [if_pos hc] at h; exact absurd h hc
    have hs : (printL l).length ≤ 65536 := by
      unfold printE at h
      rw [if_neg (by simpa using hc)] at h
      split at h
      · cases h
      · omega
    rw [e, strL_of]
    refine ⟨by show (printL l).toArray.size ≤ 65536; simpa using hs, parse_print l (fun s hs => ?_) hc hs⟩
    have h1 := hk.out s hs
    have h2 := inM_mem (check_ok hc).2.1 hs
    exact ⟨h2.1, h2.2, h1.1, h1.2.1, h1.2.2.1, h1.2.2.2⟩
  obtain ⟨PE, hPE⟩ : ∃ x, printE l = x := ⟨_, rfl⟩
  obtain ⟨PB, hPB⟩ : ∃ x, printB l = x := ⟨_, rfl⟩
  obtain ⟨X, hX⟩ : ∃ x, parseS (strL text) = x := ⟨_, rfl⟩
  have hX' := hX
  rw [hX] at hT hl1
  obtain ⟨x, e, a⟩ := X
  dsimp only at hT hl1
  rw [hPE, hPB] at fact
  rw [hPE, hPB, hn'] at hP
  rw [hPB] at hQ0
  rw [hn']
  have hn3 : Hid (l.length = n) := hn'
  clear hbig hPE hPB hX
  by_cases he : e = 0
  · subst he
    obtain ⟨rfl, hg, hc, hp, hz⟩ := print_parse _ _ _ hX'
    have hxc : Hid (checkS x = 0) := hc
    have hxk : Hid (Hid (∀ s ∈ x, Rg s.a)) := (fun s hs => by have g := hg s hs; exact ⟨g.k0, g.k1, g.b0, g.b1⟩ : ∀ s ∈ x, Rg s.a)
    have hxp : Hid (printB x = text ∧ printE x = 0) := by
      have e0 : printE x = 0 := by unfold printE; rw [if_neg (by simpa using hc), if_neg (by rw [hp]; omega)]
      refine ⟨?_, e0⟩
      unfold printB
      rw [if_pos e0, hp, strL_mk]
    clear hX' hg hc hp hz
    by_cases hE : PE = 0
    · subst hE
      have hQ : Hid (∀ v, Hid (Tp v) → _) := fun v ht => by
        have := hQ0 v ht (by have := (fact rfl).1; omega)
        rw [(fact rfl).2] at this
        exact this
      clear hQ0 fact
      go_enter Tryd.func4, Tryd.ntmps4
      go_wp2_with (first
        | (go_at_call 10; refine hP.mono ?_; rintro e1 y1 ⟨rfl, B1⟩; refine stopAt ?_))
      refine Stop.go ?_
      go_wp2_with (first
        | (go_at_call 6; refine (hQ.out y1 (tb.out.below B1.out)).mono ?_; rintro e1 y2 ⟨v2, rfl, H2⟩; refine stopAt ?_))
      refine Stop.go ?_
      obtain ⟨s2, c2, rfl, L2, _⟩ := OwnS.open H2.out.oa
      have B2 : Hid (Below w.heap.size w y2) := B1.out.trans (H2.out.fm.low.mono B1.out.size)
      have hS := rsame_any y2 sp s2 cap c2 l l (hl.out.below B2.out) L2 (by omega) (by omega)
      rw [(sameB_iff l l).2 rfl, hn'] at hS
      rw [hn']
      clear L2 H2
      go_wp2_with (first
        | (go_at_call 11; refine hS.mono ?_; rintro e1 y3 ⟨rfl, H3⟩; have B3 : Hid (Below w.heap.size w y3) := B2.out.trans (H3.mono B2.out.size); clear H3; refine stopAt ?_))
      refine Stop.go ?_
      go_wp2_with (first
        | (go_at_call 6; refine (hT.out y3 (tb.out.below B3.out)).mono ?_; rintro e1 y4 ⟨v4, rfl, H4⟩; refine stopAt ?_))
      refine Stop.go ?_
      obtain ⟨s4, c4, rfl, L4, _⟩ := OwnS.open H4.out.oa
      have B4 : Hid (Below w.heap.size w y4) := B3.out.trans (H4.out.fm.low.mono B3.out.size)
      have hU := print_any y4 (tb.out.below B4.out) s4 c4 x L4 (by omega) hxk.out
      rw [hxp.out.1, hxp.out.2] at hU
      have hV : Hid (∀ y, Below y4.heap.size y4 y → Calls Tryd.prog 12 #[.slice s4 x.length c4] y fun e w' => e = .returned (.int .i64 0) ∧ Below y.heap.size y w') := fun y hy => by
        have := check_any y s4 c4 x (L4.below hy) (by omega)
        rw [hxc.out] at this
        exact this
      obtain ⟨k, hk'⟩ : ∃ k, x.length = k := ⟨_, rfl⟩
      rw [hk'] at hU hV ⊢
      clear L4 H4
      go_wp2_with (first
        | (go_at_call 10; refine hU.mono ?_; rintro e1 y5 ⟨rfl, H5⟩; have B5 : Hid (Below w.heap.size w y5) := B4.out.trans (H5.out.mono B4.out.size))
        | (go_at_call 12; refine (hV.out y5 H5.out).mono ?_; rintro e1 y6 ⟨rfl, H6⟩; have B6 : Hid (Below w.heap.size w y6) := B5.out.trans (H6.mono B5.out.size))
        | (go_at_call 9; refine (hW _ (tb.out.below B6.out)).mono ?_; rintro e7 y7 ⟨rfl, H7⟩; have B7 : Hid (Below w.heap.size w y7) := B6.out.trans (H7.mono B6.out.size); clear H7))
      go_ret
      exact ⟨rfl, B7.out⟩
    · have qE : (PE == 0) = false := by simpa using hE
      clear hE hQ0 fact
      go_enter Tryd.func4, Tryd.ntmps4
      go_wp2_with (first
        | (go_at_call 10; refine hP.mono ?_; rintro e1 y1 ⟨rfl, B1⟩; refine stopAt ?_))
      refine Stop.go ?_
      go_wp2_with (first
        | (go_at_call 6; refine (hT.out y1 (tb.out.below B1.out)).mono ?_; rintro e1 y4 ⟨v4, rfl, H4⟩; refine stopAt ?_))
      refine Stop.go ?_
      obtain ⟨s4, c4, rfl, L4, _⟩ := OwnS.open H4.out.oa
      have B4 : Hid (Below w.heap.size w y4) := B1.out.trans (H4.out.fm.low.mono B1.out.size)
      have hU := print_any y4 (tb.out.below B4.out) s4 c4 x L4 (by omega) hxk.out
      rw [hxp.out.1, hxp.out.2] at hU
      have hV : Hid (∀ y, Below y4.heap.size y4 y → Calls Tryd.prog 12 #[.slice s4 x.length c4] y fun e w' => e = .returned (.int .i64 0) ∧ Below y.heap.size y w') := fun y hy => by
        have := check_any y s4 c4 x (L4.below hy) (by omega)
        rw [hxc.out] at this
        exact this
      obtain ⟨k, hk'⟩ : ∃ k, x.length = k := ⟨_, rfl⟩
      rw [hk'] at hU hV ⊢
      clear L4 H4
      go_wp2_with (first
        | (go_at_call 10; refine hU.mono ?_; rintro e1 y5 ⟨rfl, H5⟩; have B5 : Hid (Below w.heap.size w y5) := B4.out.trans (H5.out.mono B4.out.size))
        | (go_at_call 12; refine (hV.out y5 H5.out).mono ?_; rintro e1 y6 ⟨rfl, H6⟩; have B6 : Hid (Below w.heap.size w y6) := B5.out.trans (H6.mono B5.out.size))
        | (go_at_call 9; refine (hW _ (tb.out.below B6.out)).mono ?_; rintro e7 y7 ⟨rfl, H7⟩; have B7 : Hid (Below w.heap.size w y7) := B6.out.trans (H7.mono B6.out.size); clear H7))
      go_ret
      exact ⟨rfl, B7.out⟩
  · have qe : (e != 0) = true := by simpa using he
    obtain ⟨rfl, ha⟩ := parse_bad _ _ _ _ hX' he
    have qa : decide (0 ≤ a) = true := by simpa using ha
    clear hX' he
    by_cases hE : PE = 0
    · subst hE
      have hQ : Hid (∀ v, Hid (Tp v) → _) := fun v ht => by
        have := hQ0 v ht (by have := (fact rfl).1; omega)
        rw [(fact rfl).2] at this
        exact this
      clear hQ0 fact
      go_enter Tryd.func4, Tryd.ntmps4
      go_wp2_with (first
        | (go_at_call 10; refine hP.mono ?_; rintro e1 y1 ⟨rfl, B1⟩; refine stopAt ?_))
      refine Stop.go ?_
      go_wp2_with (first
        | (go_at_call 6; refine (hQ.out y1 (tb.out.below B1.out)).mono ?_; rintro e1 y2 ⟨v2, rfl, H2⟩; refine stopAt ?_))
      refine Stop.go ?_
      obtain ⟨s2, c2, rfl, L2, _⟩ := OwnS.open H2.out.oa
      have B2 : Hid (Below w.heap.size w y2) := B1.out.trans (H2.out.fm.low.mono B1.out.size)
      have hS := rsame_any y2 sp s2 cap c2 l l (hl.out.below B2.out) L2 (by omega) (by omega)
      rw [(sameB_iff l l).2 rfl, hn'] at hS
      rw [hn']
      clear L2 H2
      go_wp2_with (first
        | (go_at_call 11; refine hS.mono ?_; rintro e1 y3 ⟨rfl, H3⟩; have B3 : Hid (Below w.heap.size w y3) := B2.out.trans (H3.mono B2.out.size); clear H3; refine stopAt ?_))
      refine Stop.go ?_
      go_wp2_with (first
        | (go_at_call 6; refine (hT.out y3 (tb.out.below B3.out)).mono ?_; rintro e1 y4 ⟨v4, rfl, H4⟩; refine stopAt ?_))
      refine Stop.go ?_
      obtain ⟨s4, c4, rfl, L4, _⟩ := OwnS.open H4.out.oa
      have B4 : Hid (Below w.heap.size w y4) := B3.out.trans (H4.out.fm.low.mono B3.out.size)
      clear L4 H4
      go_wp2_with (first
        | (go_at_call 9; refine (hW _ (tb.out.below B4.out)).mono ?_; rintro e7 y7 ⟨rfl, H7⟩; have B7 : Hid (Below w.heap.size w y7) := B4.out.trans (H7.mono B4.out.size); clear H7))
      go_ret
      exact ⟨rfl, B7.out⟩
    · have qE : (PE == 0) = false := by simpa using hE
      clear hE hQ0 fact
      go_enter Tryd.func4, Tryd.ntmps4
      go_wp2_with (first
        | (go_at_call 10; refine hP.mono ?_; rintro e1 y1 ⟨rfl, B1⟩; refine stopAt ?_))
      refine Stop.go ?_
      go_wp2_with (first
        | (go_at_call 6; refine (hT.out y1 (tb.out.below B1.out)).mono ?_; rintro e1 y4 ⟨v4, rfl, H4⟩; refine stopAt ?_))
      refine Stop.go ?_
      obtain ⟨s4, c4, rfl, L4, _⟩ := OwnS.open H4.out.oa
      have B4 : Hid (Below w.heap.size w y4) := B1.out.trans (H4.out.fm.low.mono B1.out.size)
      clear L4 H4
      go_wp2_with (first
        | (go_at_call 9; refine (hW _ (tb.out.below B4.out)).mono ?_; rintro e7 y7 ⟨rfl, H7⟩; have B7 : Hid (Below w.heap.size w y7) := B4.out.trans (H7.mono B4.out.size); clear H7))
      go_ret
      exact ⟨rfl, B7.out⟩
end Go.Proofs.YthpahpfnpapoiabDoor
