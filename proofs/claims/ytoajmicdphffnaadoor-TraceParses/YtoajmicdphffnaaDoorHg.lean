/- The statements on Parse: the walks. -/
import Derived.Test.YtoajmicdphffnaaDoorKv
import Derived.Test.YtoajmicdphffnaaDoorHf
import Derived.Test.YtoajmicdphffnaaDoorKi
import Derived.Test.YtoajmicdphffnaaDoorKt
namespace Go.Proofs.YtoajmicdphffnaaDoor
open Go Go.RowKit
set_option linter.unusedVariables false
set_option maxHeartbeats 2000000
set_option maxRecDepth 20000

theorem Ct.fam3 {w y1 y2 y3 : World} {va vb vc : Value} {l : List Rc} (h1 : Ct w va (.slice none 0 0) l [] [] y1) (h2 : Ct y1 vb (.slice none 0 0) l [] [] y2) (h3 : Ct y2 vc (.slice none 0 0) l [] [] y3) :
    OwnR w.heap.size y3 va l ∧ OwnR w.heap.size y3 vb l ∧ OwnR w.heap.size y3 vc l ∧ (∀ g, va.ownBlock = some g → vb.ownBlock ≠ some g) ∧ (∀ g, va.ownBlock = some g → vc.ownBlock ≠ some g) ∧ (∀ g, vb.ownBlock = some g → vc.ownBlock ≠ some g) ∧ Below w.heap.size w y3 := by
  have s1 := h1.fm.low.size
  have s2 := h2.fm.low.size
  refine ⟨(h1.oa.below h2.fm.low).below h3.fm.low, (h2.oa.below h3.fm.low).weak s1, h3.oa.weak (by omega), fun g e1 e2 => ?_, fun g e1 e2 => ?_, fun g e1 e2 => ?_, (h1.fm.low.trans (h2.fm.low.mono s1)).trans (h3.fm.low.mono (by omega))⟩
  · have a := (World.ownsRow.lt h1.oa g e1).2
    have b := (World.ownsRow.lt h2.oa g e2).1
    omega
  · have a := (World.ownsRow.lt h1.oa g e1).2
    have b := (World.ownsRow.lt h3.oa g e2).1
    omega
  · have a := (World.ownsRow.lt h2.oa g e1).2
    have b := (World.ownsRow.lt h3.oa g e2).1
    omega
theorem parse_len (t : List UInt8) : (parseR t).1.length ≤ 65536 := by
  rcases hx : parseR t with ⟨m, e, a⟩
  by_cases he : e = 0
  · subst he; exact (print_parse t m a hx).2.2.2.2.2
  · rw [(parse_bad t m e a hx he).1]; simp
theorem parses_walk (w : World) (tb : Hid (Tp w)) (tq : Hid (Tq w)) (text : ByteArray) (hs : text.size ≤ maxLen) : Calls Tryd.prog 5 #[.string text] w fun e w' => e = .returned (.bool true) ∧ Below w.heap.size w w' := by
  have hs : text.size ≤ 9223372036854775807 := by unfold maxLen at hs; omega
  have hP := fun v (h1 : Tp v) (h2 : Tq v) => pparse_any v h1 h2 text hs
  have hR := fun v => rparse_any v text hs
  have hlen := parse_len (strL text)
  generalize parseR (strL text) = S at hP hR hlen
  obtain ⟨L, E, A⟩ := S
  dsimp only at hP hR hlen
  have hO : Hid (∀ (y1 y2 y3 : World) (va vb vc : Value), Ct w va (.slice none 0 0) L [] [] y1 → Ct y1 vb (.slice none 0 0) L [] [] y2 → Ct y2 vc (.slice none 0 0) L [] [] y3 → Calls Tryd.prog 16 #[va, vb, vc] y3 fun e w' => e = .returned (.bool true) ∧ Below w.heap.size w w') := fun y1 y2 y3 va vb vc h1 h2 h3 => by
    obtain ⟨o1, o2, o3, d1, d2, d3, lw⟩ := h1.fam3 h2 h3
    refine (own_any y3 w.heap.size lw.size va vb vc L (by omega) o1 o2 o3 d1 d2 d3).mono ?_
    rintro e w' ⟨rfl, h⟩
    exact ⟨rfl, lw.trans h⟩
  clear hs hlen
  go_enter Tryd.func5, Tryd.ntmps5
  go_wp2_with (first
    | (go_at_call 15; refine (hR y2).mono ?_; rintro e y3 ⟨v3, rfl, H3⟩)
    | (go_at_call 16; refine (hO.out y1 y2 y3 v1 v2 v3 H1.out H2.out H3.out).mono ?_; rintro e y4 ⟨rfl, H4⟩; replace H4 : Hid _ := H4)
    | (go_at_call 9; refine (awake_any y4 (tb.out.below H4.out)).mono ?_; rintro e y5 ⟨rfl, h5⟩; replace h5 : Hid _ := h5)
    | (go_at_call 14; refine (hP w tb.out tq.out).mono ?_; rintro e y1 ⟨v1, rfl, H1⟩)
    | (go_at_call 14; refine (hP y1 (tb.out.below H1.out.fm.low) (tq.out.below H1.out.fm.low)).mono ?_; rintro e y2 ⟨v2, rfl, H2⟩))
  go_ret
  exact ⟨by first | rfl | simp, H4.out.trans (h5.out.mono H4.out.size)⟩
end Go.Proofs.YtoajmicdphffnaaDoor
