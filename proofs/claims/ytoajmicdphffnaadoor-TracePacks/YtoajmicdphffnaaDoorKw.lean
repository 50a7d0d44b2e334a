/- The statements on names, Print, Parse and Apart: the walks. -/
import Derived.Test.YtoajmicdphffnaaDoorKv
import Derived.Test.YtoajmicdphffnaaDoorKq
import Derived.Test.YtoajmicdphffnaaDoorKt
namespace Go.Proofs.YtoajmicdphffnaaDoor
open Go Go.RowKit
set_option linter.unusedVariables false
set_option maxHeartbeats 2000000
set_option maxRecDepth 20000

theorem names_walk (w : World) (tb : Hid (Tp w)) : Calls Tryd.prog 3 #[] w fun e w' => e = .returned (.bool true) ∧ Below w.heap.size w w' := by
  go_enter Tryd.func3, Tryd.ntmps3
  go_wp2_with (go_at_call 9; refine (awake_any w tb).mono ?_; rintro e y ⟨rfl, h⟩; replace h : Hid _ := h)
  go_ret
  exact ⟨by first | rfl | simp, h.out⟩
theorem prints_walk (w : World) (tb : Hid (Tp w)) (sp : Option Addr) (cap : Nat) (l : List Rc) (hl : Hid (LiesR w sp l)) (hn : l.length ≤ maxLen) (hk : Hid (AllG l)) :
    Calls Tryd.prog 4 #[.slice sp l.length cap] w fun e w' => e = .returned (.bool true) ∧ Below w.heap.size w w' := by
  have hn : l.length ≤ 9223372036854775807 := by unfold maxLen at hn; omega
  obtain ⟨n, hn'⟩ : ∃ n, l.length = n := ⟨_, rfl⟩
  have ni : (n : Int) ≤ 9223372036854775807 := by omega
  by_cases hbig : 2147483647 < n
  · have q : decide ((2147483647 : Int) < n) = true := by simp; omega
    rw [hn']
    clear hbig hn hn'
    go_enter Tryd.func4, Tryd.ntmps4
    go_wp2
    go_ret
    exact ⟨rfl, Below.refl _ _⟩
  have q : decide ((2147483647 : Int) < n) = false := by simp; omega
  have hL := lent_any w sp cap l hl (by omega)
  have hP : Hid (∀ (y : World) (g : Nat), Tp y → LiesR y (some ⟨g, 0, none⟩) l → Calls Tryd.prog 11 #[.slice (some ⟨g, 0, none⟩) n (n + 1)] y fun e w' => e = .returned (.tuple #[.string (printB l), .int .i64 (printE l)]) ∧ Hid (Below y.heap.size y w')) := fun y g ht h => by
    have := pprint_any y ht (some ⟨g, 0, none⟩) (n + 1) l h hn hk
    rw [hn'] at this
    exact this
  have hR : Hid (∀ y : World, LiesR y sp l → Calls Tryd.prog 12 #[.slice sp n cap] y fun e w' => e = .returned (.tuple #[.string (printB l), .int .i64 (printE l)]) ∧ Hid (Below y.heap.size y w')) := fun y h => by
    have := rprint_any y sp cap l h hn hk
    rw [hn'] at this
    exact this
  have hBk : Hid (∀ (y : World) (g : Nat), w.heap.size ≤ g → LntR w g l y → LiesR y sp l → Calls Tryd.prog 13 #[.slice (some ⟨g, 0, none⟩) n (n + 1), .slice sp n cap] y fun e w' => e = .returned (.bool true) ∧ Cu w.heap.size (fun q _ => q = g) y w') := fun y g h1 h2 h3 => by
    have := back_any w y g sp cap l h1 h2 h3 (by omega)
    rw [hn'] at this
    exact this
  rw [hn'] at hL ⊢
  obtain ⟨PB, hPB⟩ : ∃ x, printB l = x := ⟨_, rfl⟩
  obtain ⟨PE, hPE⟩ : ∃ x, printE l = x := ⟨_, rfl⟩
  rw [hPB, hPE] at hP hR
  clear hbig hn hn' hPB hPE
  go_enter Tryd.func4, Tryd.ntmps4
  go_wp2_with (first
    | (go_at_call 10; refine hL.mono ?_; rintro e y1 ⟨rfl, L1⟩)
    | (go_at_call 11; refine (hP.out y1 _ (tb.out.below L1.out.low) L1.out.lies).mono ?_; rintro e y2 ⟨rfl, H2⟩; have L2 : Hid (LntR w w.heap.size l y2) := L1.out.below H2.out)
    | (go_at_call 12; refine (hR.out y2 (hl.out.below L2.out.low)).mono ?_; rintro e y3 ⟨rfl, H3⟩; have L3 : Hid (LntR w w.heap.size l y3) := L2.out.below H3.out)
    | (go_at_call 13; refine (hBk.out y3 _ (Nat.le_refl _) L3.out (hl.out.below L3.out.low)).mono ?_; rintro e y4 ⟨rfl, H4⟩; have K4 : Hid (Below w.heap.size w y4) := L3.out.low.trans H4.low; clear H4)
    | (go_at_call 9; refine (awake_any y4 (tb.out.below K4.out)).mono ?_; rintro e y5 ⟨rfl, h5⟩; replace h5 : Hid _ := h5))
  go_ret
  exact ⟨by first | rfl | simp, K4.out.trans (h5.out.mono K4.out.size)⟩
theorem apart_walk (w : World) (tb : Hid (Tp w)) (pa pb : Option Addr) (ca cb : Nat) (a b : List Rc) (ha : Hid (LiesR w pa a)) (hb : Hid (LiesR w pb b)) (hna : a.length ≤ maxLen) (hnb : b.length ≤ maxLen) :
    Calls Tryd.prog 8 #[.slice pa a.length ca, .slice pb b.length cb] w fun e w' => e = .returned (.bool true) ∧ Below w.heap.size w w' := by
  have hna : a.length ≤ 9223372036854775807 := by unfold maxLen at hna; omega
  have hnb : b.length ≤ 9223372036854775807 := by unfold maxLen at hnb; omega
  have hAB := fun v (h : Below w.heap.size w v) => papart_any v pa pb ca cb a b (ha.out.below h) (hb.out.below h) hna hnb
  have hBA := fun v (h : Below w.heap.size w v) => papart_any v pb pa cb ca b a (hb.out.below h) (ha.out.below h) hnb hna
  have hAA := fun v (h : Below w.heap.size w v) => papart_any v pa pa ca ca a a (ha.out.below h) (ha.out.below h) hna hna
  have hRR := fun v (h : Below w.heap.size w v) => rapart_any v pa pb ca cb a b (ha.out.below h) (hb.out.below h) hna hnb
  rw [show apartR b a = apartR a b from apart_sym b a 0] at hBA
  rw [show apartR a a = -1 from apart_same a 0] at hAA
  generalize apartR a b = R at hAB hBA hRR
  generalize a.length = n at hAB hBA hAA hRR ⊢
  generalize b.length = m at hAB hBA hRR ⊢
  replace hAB : Hid _ := hAB
  replace hBA : Hid _ := hBA
  replace hAA : Hid _ := hAA
  replace hRR : Hid _ := hRR
  clear hna hnb ha hb
  go_enter Tryd.func8, Tryd.ntmps8
  refine stopAt ?_
  refine Stop.go ?_
  go_upto_region 2 with (go_at_call 22; refine (hAB.out w (Below.refl _ _)).mono ?_; rintro e y1 ⟨rfl, h1⟩; have K1 : Hid (Below w.heap.size w y1) := h1; clear h1)
  go_upto_region 3 with (go_at_call 22; refine (hBA.out y1 K1.out).mono ?_; rintro e y2 ⟨rfl, h2⟩; have K2 : Hid (Below w.heap.size w y2) := K1.out.trans (h2.mono K1.out.size); clear h2)
  go_wp2_with (first
    | (go_at_call 23; refine (hRR.out y2 K2.out).mono ?_; rintro e y3 ⟨rfl, h3⟩; have K3 : Hid (Below w.heap.size w y3) := K2.out.trans (h3.mono K2.out.size); clear h3)
    | (go_at_call 22; refine (hAA.out y3 K3.out).mono ?_; rintro e y4 ⟨rfl, h4⟩; have K4 : Hid (Below w.heap.size w y4) := K3.out.trans (h4.mono K3.out.size); clear h4)
    | (go_at_call 9; refine (awake_any y4 (tb.out.below K4.out)).mono ?_; rintro e y5 ⟨rfl, h5⟩; replace h5 : Hid _ := h5))
  go_ret
  exact ⟨by first | rfl | simp, K4.out.trans (h5.out.mono K4.out.size)⟩
end Go.Proofs.YtoajmicdphffnaaDoor
