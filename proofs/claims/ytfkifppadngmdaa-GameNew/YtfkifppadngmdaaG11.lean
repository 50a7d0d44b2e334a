/- The document's own: a machine a sixtieth of a second later. -/
import Derived.Test.YtfkifppadngmdaaG10
namespace Go.Proofs.Ytfkifppadngmdaa
open Go Go.RowKit Go.Shelf
set_option linter.unusedVariables false
set_option maxHeartbeats 1000000
set_option maxRecDepth 20000

theorem GO.keep {B : Nat} {x y : World} {C : Array Value} {g : Gm} (h : GO B x C g) (k : ∀ q, B ≤ q → y.heap[q]? = x.heap[q]?) : GO B y C g := by
  obtain ⟨⟨vS, vP, vM, e, h1, h2, h3, h4⟩, ok⟩ := h
  exact ⟨⟨vS, vP, vM, e, h1.keepB fun q hq => k q (h1.lt q hq).1, h2.keepB fun q hq => k q (h2.lt q hq).1, h3.keepB fun q hq => k q (h3.lt q hq).1, h4⟩, ok⟩
theorem GO.zero (B : Nat) (w : World) : GO B w gZ gz := ⟨⟨.slice none 0 0, .slice none 0 0, .slice none 0 0, rfl, OwnL.nil _ _, OwnL.nil _ _, OwnL.nil _ _, fun q hq => by simp [Value.ownBlock] at hq⟩, gz_ok⟩
theorem GO.de {B : Nat} {w : World} {C : Array Value} {g : Gm} (h : GO B w C g) (d : UInt8) : GO B w (C.setIfInBounds 19 (byV d)) { g with de := d } := by
  obtain ⟨⟨vS, vP, vM, e, h1, h2, h3, h4⟩, ok⟩ := h
  exact ⟨⟨vS, vP, vM, by rw [e, gCs_de], h1, h2, h3, h4⟩, ⟨ok.v, ok.i, ok.pc, ok.st⟩⟩
theorem GO.so {B : Nat} {w : World} {C : Array Value} {g : Gm} (h : GO B w C g) (d : UInt8) : GO B w (C.setIfInBounds 20 (byV d)) { g with so := d } := by
  obtain ⟨⟨vS, vP, vM, e, h1, h2, h3, h4⟩, ok⟩ := h
  exact ⟨⟨vS, vP, vM, by rw [e, gCs_so], h1, h2, h3, h4⟩, ⟨ok.v, ok.i, ok.pc, ok.st⟩⟩
theorem GO.timers {B : Nat} {w : World} {C : Array Value} {g : Gm} (h : GO B w C g) : C[19]? = some (byV g.de) ∧ C[20]? = some (byV g.so) := by
  obtain ⟨⟨vS, vP, vM, e, h1, h2, h3, h4⟩, ok⟩ := h
  rw [e]
  exact ⟨rfl, rfl⟩
theorem GO.weak {B B' : Nat} {w : World} {C : Array Value} {g : Gm} (h : GO B w C g) (hB : B' ≤ B) : GO B' w C g := by
  obtain ⟨⟨vS, vP, vM, e, h1, h2, h3, h4⟩, ok⟩ := h
  exact ⟨⟨vS, vP, vM, e, h1.weak hB, h2.weak hB, h3.weak hB, h4⟩, ok⟩
theorem builtG0 : Try.prog.built 29 [] = some gZ := by kernel_rfl
theorem dec1 (d : UInt8) (h : d ≠ 0) : ((d.toNat : Int) - 1) % 256 = ((d - 1).toNat : Int) ∧ decide (0 < d.toNat) = true := by
  have h0 : d.toNat ≠ 0 := fun e => h (UInt8.toNat_inj.1 e)
  have h1 := d.toNat_lt
  have e : (d - 1).toNat = d.toNat - 1 := by
    rw [UInt8.toNat_sub_of_le]
    · rfl
    · rw [UInt8.le_iff_toNat_le]
      show 1 ≤ d.toNat
      omega
  refine ⟨?_, by simp; omega⟩
  rw [e]
  omega
end Go.Proofs.Ytfkifppadngmdaa
