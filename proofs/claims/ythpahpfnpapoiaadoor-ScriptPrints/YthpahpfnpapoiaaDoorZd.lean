/- ScriptPrints' walk. -/
import Derived.Test.YthpahpfnpapoiaaDoorXg
import Derived.Test.YthpahpfnpapoiaaDoorXz
namespace Go.Proofs.YthpahpfnpapoiaaDoor
open Go Go.RowKit
set_option linter.unusedVariables false
set_option maxHeartbeats 1000000
set_option maxRecDepth 20000

theorem prints_walk (w : World) (tb : Hid (Tp w)) (sp : Option Addr) (cap : Nat) (l : List Sn) (hl : Hid (LiesS w sp l)) (hn : l.length ≤ 9223372036854775807) (hk : Hid (∀ s ∈ l, Rg s.a)) :
    Calls Tryd.prog 8 #[.slice sp l.length cap] w fun e w' => e = .returned (.bool true) ∧ Below w.heap.size w w' := by
  obtain ⟨n, hn'⟩ : ∃ n, l.length = n := ⟨_, rfl⟩
  have ni : (n : Int) ≤ 9223372036854775807 := by omega
  by_cases hbig : 2147483647 < n
  · rw [hn']
    have q : decide ((2147483647 : Int) < n) = true := by simp; omega
    clear hbig hn hn'
    go_enter Tryd.func8, Tryd.ntmps8
    go_wp2
    go_ret
    exact ⟨rfl, Below.refl _ _⟩
  have q : decide ((2147483647 : Int) < n) = false := by simp; omega
  have hn2 : l.length ≤ 2147483647 := by omega
  have hL := lent_any w sp cap l hl hn2
  have hBk : Hid (∀ y, LntS w w.heap.size l y → Calls Tryd.prog 13 #[.slice (some ⟨w.heap.size, 0, none⟩) n (n + 1), .slice sp n cap] y fun e w' => e = .returned (.bool true) ∧ Cu w.heap.size (fun q _ => q = w.heap.size) y w') := fun y h => by
    have := back_any w y w.heap.size sp cap l (Nat.le_refl _) h (hl.out.below h.low) hn2
    rw [hn'] at this
    exact this
  have hW := awake_any
  have hP : Hid (∀ y, LntS w w.heap.size l y → Calls Tryd.prog 26 #[.slice (some ⟨w.heap.size, 0, none⟩) n (n + 1)] y fun e w' => e = .returned (.tuple #[.string (printB l), .int .i64 (printE l)]) ∧ Hid (Below y.heap.size y w')) := fun y h => by
    have := print_any y (tb.out.below h.low) (some ⟨w.heap.size, 0, none⟩) (n + 1) l h.lies hn2 hk
    rw [hn'] at this
    exact this
  have hR : Hid (∀ y, Below w.heap.size w y → Calls Tryd.prog 27 #[.slice sp n cap] y fun e w' => e = .returned (.tuple #[.string (printB l), .int .i64 (printE l)]) ∧ Hid (Below y.heap.size y w')) := fun y h => by
    have := rprint_any y (tb.out.below h) sp cap l (hl.out.below h) hn hk
    rw [hn'] at this
    exact this
  rw [hn'] at hL ⊢
  obtain ⟨PE, hPE⟩ : ∃ x, printE l = x := ⟨_, rfl⟩
  obtain ⟨PB, hPB⟩ : ∃ x, printB l = x := ⟨_, rfl⟩
  rw [hPE, hPB] at hP hR
  clear hPE hPB hbig hn hn' hn2 ni
  go_enter Tryd.func8, Tryd.ntmps8
  go_wp2_with (first
    | (go_at_call 10; refine hL.mono ?_; rintro e1 y1 ⟨rfl, H1⟩; refine stopAt ?_))
  refine Stop.go ?_
  go_wp2_with (first
    | (go_at_call 26; refine (hP.out y1 H1.out).mono ?_; rintro e2 y2 ⟨rfl, H2⟩; have L2 : Hid (LntS w w.heap.size l y2) := H1.out.below H2.out; clear H2)
    | (go_at_call 13; refine (hBk.out y2 L2.out).mono ?_; rintro e3 y3 ⟨rfl, H3⟩; have B3 : Hid (Below w.heap.size w y3) := L2.out.low.trans H3.low; clear H3)
    | (go_at_call 27; refine (hR.out y3 B3.out).mono ?_; rintro e4 y4 ⟨rfl, H4⟩; have B4 : Hid (Below w.heap.size w y4) := B3.out.trans (H4.out.mono B3.out.size); clear H4)
    | (go_at_call 9; refine (hW _ (tb.out.below B4.out)).mono ?_; rintro e9 y9 ⟨rfl, H9⟩; have B9 : Hid (Below w.heap.size w y9) := B4.out.trans (H9.mono B4.out.size); clear H9))
  go_ret
  exact ⟨rfl, B9.out⟩
theorem names_walk (w : World) (tb : Hid (Tp w)) : Calls Tryd.prog 3 #[] w fun e w' => e = .returned (.bool true) ∧ Below w.heap.size w w' := by
  have hW := awake_any w tb
  go_enter Tryd.func3, Tryd.ntmps3
  go_wp2_with (go_at_call 9; refine hW.mono ?_; rintro e9 y9 ⟨rfl, H9⟩)
  go_ret
  exact ⟨rfl, H9⟩
end Go.Proofs.YthpahpfnpapoiaaDoor
