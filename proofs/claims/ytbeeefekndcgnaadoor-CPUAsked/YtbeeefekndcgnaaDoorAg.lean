/- CPUAsked, whole. -/
import Derived.Test.YtbeeefekndcgnaaDoorAb
import Derived.Test.YtbeeefekndcgnaaDoorAc
import Derived.Test.YtbeeefekndcgnaaDoorAe
import Derived.Test.YtbeeefekndcgnaaDoorAf
namespace Go.Proofs.YtbeeefekndcgnaaDoor
open Go Go.RowKit
set_option linter.unusedVariables false

theorem ask5 (d : Cp) (p : Pn) (q : Bool) (r : Nat) : (p.DI = true ∧ askedM d p q r = 6) ∨ (p.DI = false ∧ p.DO = true ∧ askedM d p q r = 7) ∨ (p.DI = false ∧ p.DO = false ∧ p.Int_ = true ∧ d.IE = true ∧ askedM d p q r = if q then r else 8)
    ∨ (p.DI = false ∧ p.DO = false ∧ p.Int_ = true ∧ d.IE = false ∧ askedM d p q r = r) ∨ (p.DI = false ∧ p.DO = false ∧ p.Int_ = false ∧ askedM d p q r = r) := by
  unfold askedM
  cases p.DI <;> cases p.DO <;> cases p.Int_ <;> cases d.IE <;> cases q <;> simp
theorem asked_walk (w : World) (c : Cp) (hc : c.wf) (p : Pn) (hp : p.wf) (tb : Tabs w) : Calls Tryd.prog 5 #[.agg (cpC c), .agg (pnC p)] w fun e w' => e = .returned (.bool true) ∧ Below w.heap.size w w' := by
  rcases hch : checkB c with _ | _
  · exact asked_no w c hc p hp tb hch
  have hm := (checkB_iff c).1 hch
  obtain ⟨h1, h2, h3, h4, h5, h6, h7⟩ := hm
  obtain ⟨N, hN⟩ : ∃ N, goOnM c { p with Mode := 0 } = N := ⟨_, rfl⟩
  rcases (show c.Ph = 1 ∨ c.Ph = 2 ∨ c.Ph = 3 ∨ c.Ph = 4 ∨ c.Ph = 5 ∨ c.Ph = 6 ∨ c.Ph = 7 ∨ c.Ph = 8 by omega) with h | h | h | h | h | h | h | h
  · exact asked_1 w c hc p hp tb hch N hN h
  · by_cases h12 : c.Op / 16 = 12
    · exact asked_2l w c hc p hp tb hch N hN h h12
    · by_cases h0 : c.Op = 0
      · have e : N = { doesM c { p with Mode := 0 } with Ph := askedM (doesM c { p with Mode := 0 }) { p with Mode := 0 } false 4 } := by rw [← hN]; unfold goOnM; simp only [h]; rw [if_neg h12, if_pos h0]
        have a := ask5 (doesM c { p with Mode := 0 }) { p with Mode := 0 } false 4
        have eP : N.Ph = askedM (doesM c { p with Mode := 0 }) { p with Mode := 0 } false 4 := by rw [e]
        have eI : N.IE = (doesM c { p with Mode := 0 }).IE := by rw [e]
        rw [← eP, ← eI] at a
        rcases a with ⟨a1, a2⟩ | ⟨a1, a2, a3⟩ | ⟨a1, a2, a3, a4, a5⟩ | ⟨a1, a2, a3, a4, a5⟩ | ⟨a1, a2, a3, a4⟩
        · exact asked_20di w c hc p hp tb hch N hN h h12 h0 a1 a2
        · exact asked_20do w c hc p hp tb hch N hN h h12 h0 a1 a2 a3
        · exact asked_20in w c hc p hp tb hch N hN h h12 h0 a1 a2 a3 a4 a5
        · exact asked_20ie w c hc p hp tb hch N hN h h12 h0 a1 a2 a3 a4 a5
        · exact asked_20no w c hc p hp tb hch N hN h h12 h0 a1 a2 a3 a4
      · have e : N = { doesM c { p with Mode := 0 } with Ph := askedM (doesM c { p with Mode := 0 }) { p with Mode := 0 } false 1 } := by rw [← hN]; unfold goOnM; simp only [h]; rw [if_neg h12, if_neg h0]
        have a := ask5 (doesM c { p with Mode := 0 }) { p with Mode := 0 } false 1
        have eP : N.Ph = askedM (doesM c { p with Mode := 0 }) { p with Mode := 0 } false 1 := by rw [e]
        have eI : N.IE = (doesM c { p with Mode := 0 }).IE := by rw [e]
        rw [← eP, ← eI] at a
        rcases (show c.Op < 192 ∨ 207 < c.Op by omega) with g | g
        · rcases a with ⟨a1, a2⟩ | ⟨a1, a2, a3⟩ | ⟨a1, a2, a3, a4, a5⟩ | ⟨a1, a2, a3, a4, a5⟩ | ⟨a1, a2, a3, a4⟩
          · exact asked_21adi w c hc p hp tb hch N hN h g h0 a1 a2
          · exact asked_21ado w c hc p hp tb hch N hN h g h0 a1 a2 a3
          · exact asked_21ain w c hc p hp tb hch N hN h g h0 a1 a2 a3 a4 a5
          · exact asked_21aie w c hc p hp tb hch N hN h g h0 a1 a2 a3 a4 a5
          · exact asked_21ano w c hc p hp tb hch N hN h g h0 a1 a2 a3 a4
        · rcases a with ⟨a1, a2⟩ | ⟨a1, a2, a3⟩ | ⟨a1, a2, a3, a4, a5⟩ | ⟨a1, a2, a3, a4, a5⟩ | ⟨a1, a2, a3, a4⟩
          · exact asked_21bdi w c hc p hp tb hch N hN h g h0 a1 a2
          · exact asked_21bdo w c hc p hp tb hch N hN h g h0 a1 a2 a3
          · exact asked_21bin w c hc p hp tb hch N hN h g h0 a1 a2 a3 a4 a5
          · exact asked_21bie w c hc p hp tb hch N hN h g h0 a1 a2 a3 a4 a5
          · exact asked_21bno w c hc p hp tb hch N hN h g h0 a1 a2 a3 a4
  · have e : N = { long2M c { p with Mode := 0 } with Ph := askedM (long2M c { p with Mode := 0 }) { p with Mode := 0 } false 1 } := by rw [← hN]; unfold goOnM; simp only [h]
    have a := ask5 (long2M c { p with Mode := 0 }) { p with Mode := 0 } false 1
    have eP : N.Ph = askedM (long2M c { p with Mode := 0 }) { p with Mode := 0 } false 1 := by rw [e]
    have eI : N.IE = ((long2M c { p with Mode := 0 }) : Cp).IE := by first | (rw [e]; done) | (rw [e]; rfl)
    rw [← eP, ← eI] at a
    rcases a with ⟨a1, a2⟩ | ⟨a1, a2, a3⟩ | ⟨a1, a2, a3, a4, a5⟩ | ⟨a1, a2, a3, a4, a5⟩ | ⟨a1, a2, a3, a4⟩
    · exact asked_3di w c hc p hp tb hch N hN h (h5 h) a1 a2
    · exact asked_3do w c hc p hp tb hch N hN h (h5 h) a1 a2 a3
    · exact asked_3in w c hc p hp tb hch N hN h (h5 h) a1 a2 a3 a4 a5
    · exact asked_3ie w c hc p hp tb hch N hN h (h5 h) a1 a2 a3 a4 a5
    · exact asked_3no w c hc p hp tb hch N hN h (h5 h) a1 a2 a3 a4
  · have e : N = { c with Ph := askedM c { p with Mode := 0 } false 4 } := by rw [← hN]; unfold goOnM; simp only [h]
    have a := ask5 c { p with Mode := 0 } false 4
    have eP : N.Ph = askedM c { p with Mode := 0 } false 4 := by rw [e]
    have eI : N.IE = (c : Cp).IE := by first | (rw [e]; done) | (rw [e]; rfl)
    rw [← eP, ← eI] at a
    rcases a with ⟨a1, a2⟩ | ⟨a1, a2, a3⟩ | ⟨a1, a2, a3, a4, a5⟩ | ⟨a1, a2, a3, a4, a5⟩ | ⟨a1, a2, a3, a4⟩
    · exact asked_4di w c hc p hp tb hch N hN h (h7 (.inl h)) a1 a2
    · exact asked_4do w c hc p hp tb hch N hN h (h7 (.inl h)) a1 a2 a3
    · exact asked_4in w c hc p hp tb hch N hN h (h7 (.inl h)) a1 a2 a3 a4 a5
    · exact asked_4ie w c hc p hp tb hch N hN h (h7 (.inl h)) a1 a2 a3 a4 a5
    · exact asked_4no w c hc p hp tb hch N hN h (h7 (.inl h)) a1 a2 a3 a4
  · have e : N = { begunM c with Ph := askedM c { p with Mode := 0 } true 1 } := by rw [← hN]; unfold goOnM; simp only [h]
    have a := ask5 c { p with Mode := 0 } true 1
    have eP : N.Ph = askedM c { p with Mode := 0 } true 1 := by rw [e]
    have eI : N.IE = (c : Cp).IE := by first | (rw [e]; done) | (rw [e]; rfl)
    rw [← eP, ← eI] at a
    rcases a with ⟨a1, a2⟩ | ⟨a1, a2, a3⟩ | ⟨a1, a2, a3, a4, a5⟩ | ⟨a1, a2, a3, a4, a5⟩ | ⟨a1, a2, a3, a4⟩
    · exact asked_5di w c hc p hp tb hch N hN h (h7 (.inr h)) a1 a2
    · exact asked_5do w c hc p hp tb hch N hN h (h7 (.inr h)) a1 a2 a3
    · exact asked_5in w c hc p hp tb hch N hN h (h7 (.inr h)) a1 a2 a3 a4 a5
    · exact asked_5ie w c hc p hp tb hch N hN h (h7 (.inr h)) a1 a2 a3 a4 a5
    · exact asked_5no w c hc p hp tb hch N hN h (h7 (.inr h)) a1 a2 a3 a4
  · have e : N = { c.up 0 with Ph := askedM c { p with Mode := 0 } false 1 } := by rw [← hN]; unfold goOnM; simp only [h]
    have a := ask5 c { p with Mode := 0 } false 1
    have eP : N.Ph = askedM c { p with Mode := 0 } false 1 := by rw [e]
    have eI : N.IE = (c : Cp).IE := by first | (rw [e]; done) | (rw [e]; rfl)
    rw [← eP, ← eI] at a
    rcases a with ⟨a1, a2⟩ | ⟨a1, a2, a3⟩ | ⟨a1, a2, a3, a4, a5⟩ | ⟨a1, a2, a3, a4, a5⟩ | ⟨a1, a2, a3, a4⟩
    · exact asked_6di w c hc p hp tb hch N hN h a1 a2
    · exact asked_6do w c hc p hp tb hch N hN h a1 a2 a3
    · exact asked_6in w c hc p hp tb hch N hN h a1 a2 a3 a4 a5
    · exact asked_6ie w c hc p hp tb hch N hN h a1 a2 a3 a4 a5
    · exact asked_6no w c hc p hp tb hch N hN h a1 a2 a3 a4
  · have e : N = { c.up 0 with Ph := askedM c { p with Mode := 0 } false 1 } := by rw [← hN]; unfold goOnM; simp only [h]
    have a := ask5 c { p with Mode := 0 } false 1
    have eP : N.Ph = askedM c { p with Mode := 0 } false 1 := by rw [e]
    have eI : N.IE = (c : Cp).IE := by first | (rw [e]; done) | (rw [e]; rfl)
    rw [← eP, ← eI] at a
    rcases a with ⟨a1, a2⟩ | ⟨a1, a2, a3⟩ | ⟨a1, a2, a3, a4, a5⟩ | ⟨a1, a2, a3, a4, a5⟩ | ⟨a1, a2, a3, a4⟩
    · exact asked_7di w c hc p hp tb hch N hN h a1 a2
    · exact asked_7do w c hc p hp tb hch N hN h a1 a2 a3
    · exact asked_7in w c hc p hp tb hch N hN h a1 a2 a3 a4 a5
    · exact asked_7ie w c hc p hp tb hch N hN h a1 a2 a3 a4 a5
    · exact asked_7no w c hc p hp tb hch N hN h a1 a2 a3 a4
  · have e : N = { c with T := 16 * (c.X : Int) + c.P, P := 1, X := 2, IE := false, Ph := askedM c { p with Mode := 0 } true 1 } := by rw [← hN]; unfold goOnM; simp only [h]
    have a := ask5 c { p with Mode := 0 } true 1
    have eP : N.Ph = askedM c { p with Mode := 0 } true 1 := by rw [e]
    have eI : N.IE = false := by rw [e]
    rw [← eP] at a
    rcases a with ⟨a1, a2⟩ | ⟨a1, a2, a3⟩ | ⟨a1, a2, a3, a4, a5⟩ | ⟨a1, a2, a3, a4, a5⟩ | ⟨a1, a2, a3, a4⟩
    · exact asked_8di w c hc p hp tb hch N hN h a1 a2
    · exact asked_8do w c hc p hp tb hch N hN h a1 a2 a3
    · exact asked_8ie w c hc p hp tb hch N hN h a1 a2 a3 eI a5
    · exact asked_8ie w c hc p hp tb hch N hN h a1 a2 a3 eI a5
    · exact asked_8no w c hc p hp tb hch N hN h a1 a2 a3 a4
end Go.Proofs.YtbeeefekndcgnaaDoor
