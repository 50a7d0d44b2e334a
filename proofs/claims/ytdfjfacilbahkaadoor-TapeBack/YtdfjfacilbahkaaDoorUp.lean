/- What is heard: the statement's walk. -/
import Derived.Test.YtdfjfacilbahkaaDoorUn
import Derived.Test.YtdfjfacilbahkaaDoorQp
namespace Go.Proofs.YtdfjfacilbahkaaDoor
open Go Go.RowKit
set_option linter.unusedVariables false
set_option maxHeartbeats 1000000
set_option maxRecDepth 20000

theorem hear_len (l : List (Bool × Int)) : ∀ (h : Bool) (out : List (Int × Int)), (hearGo l h out).length ≤ out.length + l.length := by
  induction l with
  | nil => intro h out; simp [hearGo]
  | cons p l ih =>
    intro h out
    obtain ⟨b, n⟩ := p
    have hp : ∀ p, out.getLast? = some p → 0 < out.length := fun p e => List.length_pos_iff.2 fun e' => by rw [e'] at e; cases e
    cases b with
    | true =>
      cases h with
      | true =>
        refine Nat.le_trans (ih true _) ?_
        cases hl : out.getLast? with
        | none => simp; omega
        | some p => have := hp p hl; simp; omega
      | false =>
        refine Nat.le_trans (ih true (out ++ [(n, 0)])) ?_
        simp
        omega
    | false =>
      cases h <;>
      · refine Nat.le_trans (ih false _) ?_
        cases hl : out.getLast? with
        | none => simp; omega
        | some p => have := hp p hl; simp; omega
theorem heardW_len (l : List Sn) : (heardW l).1.length ≤ l.length := by
  unfold heardW
  split
  · have := hear_len (rowsH l) false []
    simp [rowsH] at this
    exact this
  · simp
theorem heard_walk (w : World) (T : Hid (Tq w)) (sp : Option Addr) (cap : Nat) (l : List Sn) (hl : Hid (LiesS w sp l)) (hn : l.length ≤ maxLen) :
    Calls Tryd.prog 7 #[.slice sp l.length cap] w fun e w' => e = .returned (.bool true) ∧ Below w.heap.size w w' := by
  have hn : l.length ≤ 9223372036854775807 := by unfold maxLen at hn; omega
  obtain ⟨n, hn'⟩ : ∃ n, l.length = n := ⟨_, rfl⟩
  have ni : (n : Int) ≤ 9223372036854775807 := by omega
  by_cases hbig : 2147483647 < n
  · have q : decide ((2147483647 : Int) < n) = true := by simp; omega
    rw [hn']
    clear hbig hn hn'
    go_enter Tryd.func7, Tryd.ntmps7
    go_wp2
    go_ret
    exact ⟨rfl, Below.refl _ _⟩
  have q : decide ((2147483647 : Int) < n) = false := by simp; omega
  have hP : Hid (∀ y : World, LiesS y sp l → Calls Tryd.prog 20 #[.slice sp n cap] y fun e w' => ∃ v, e = .returned (.tuple #[v, .int .i64 (heardW l).2]) ∧ Hid (KL 49 2 c2 y v (heardW l).1 w')) := fun y h => by
    have := pheard_any y sp cap l h (by omega)
    rw [hn'] at this
    exact this
  have hR : Hid (∀ y : World, LiesS y sp l → Calls Tryd.prog 21 #[.slice sp n cap] y fun e w' => ∃ v, e = .returned (.tuple #[v, .int .i64 (heardW l).2]) ∧ Hid (KL 49 2 c2 y v (heardW l).1 w')) := fun y h => by
    have := rheard_any y sp cap l h (by omega)
    rw [hn'] at this
    exact this
  have hbl : (heardW l).1.length ≤ 2147483648 := by have := heardW_len l; omega
  have hls : Hid (∀ x y : World, LiesS x sp l → Below x.heap.size x y → LiesS y sp l) := fun x y h hb => h.below hb
  rw [hn']
  obtain ⟨⟨BL, E⟩, hBL⟩ : ∃ x, heardW l = x := ⟨_, rfl⟩
  rw [hBL] at hP hR hbl
  dsimp only at hP hR hbl
  have hbl : Hid (BL.length ≤ 2147483648) := hbl
  have qE : (E == E) = true := by simp
  clear hbig hn hn' hBL
  go_enter Tryd.func7, Tryd.ntmps7
  go_wp2_with (first
    | (go_at_call 21; refine (hR.out y2 (hls.out _ _ (hls.out _ _ hl.out H1.out.low) H2.out.low)).mono ?_; rintro e y3 ⟨vc, rfl, H3⟩; refine stopAt ?_)
    | (go_at_call 20; refine (hP.out y1 (hls.out _ _ hl.out H1.out.low)).mono ?_; rintro e y2 ⟨vb, rfl, H2⟩)
    | (go_at_call 20; refine (hP.out w hl.out).mono ?_; rintro e y1 ⟨va, rfl, H1⟩))
  obtain ⟨T0, dab, dac, dbc⟩ := T3.made H1.out H2.out H3.out
  have hW := waves_any w y3 va vb vc BL T0 dab dac dbc hbl.out
  clear T0 dab dac dbc H1 H2 H3
  refine Stop.go ?_
  go_wp2_with (first
    | (go_at_call 12; refine hW.mono ?_; rintro e z1 ⟨rfl, k1⟩; replace k1 : Hid _ := k1)
    | (go_at_call 9; refine (awake_any z1 (T.out.below k1.out)).mono ?_; rintro e z7 ⟨rfl, h7⟩; replace h7 : Hid _ := h7))
  go_ret
  exact ⟨by first | rfl | simp, k1.out.trans (h7.out.mono k1.out.size)⟩
end Go.Proofs.YtdfjfacilbahkaaDoor
