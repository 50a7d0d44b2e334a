/- What came in, opened: pins in a row; bytes in a row. -/
import Derived.Test.YtbeeefekndcgnaaGreatDoorOp
import Derived.Test.YtbeeefekndcgnaaGreatDoorCpU
import Derived.Deep.Slices
import Derived.ChangeSlices
import Derived.ChangeArms
import Derived.SizedLaws
namespace Go.Proofs.YtbeeefekndcgnaaGreatDoor
open Go.RowKit Go.ChangeShapes Go.WideShapes
set_option linter.unusedVariables false
set_option maxHeartbeats 1000000

theorem addM (g off i : Nat) : (⟨g, off, none⟩ : Addr).add i = ⟨g, off + i, none⟩ := by unfold Addr.add; split <;> simp_all
theorem pins_open {H : Type} {enc : TypeId × Value → H} {w : World} {m : Nat} {a : Option Addr} {len cap : Nat} {x : DataW H × List MemPlace} (h : DataW.trod enc Tryz.prog w 0 (fun _ => true) true m 27 [.slice a len cap] = some x) : len ≤ maxLen ∧ PinsIn w a len := by
  rcases Go.Deep.open_slice Tryz.underlying27 h with ⟨hcs, _⟩ | ⟨ad, len', cap', M, n, D, Pl, hcs, _, hl, hm, hM, rfl, hx⟩
  · simp at hcs
    obtain ⟨rfl, rfl, rfl⟩ := hcs
    exact ⟨Nat.zero_le _, fun k hk => absurd hk (by omega)⟩
  · simp at hcs
    obtain ⟨rfl, rfl, rfl⟩ := hcs
    simp at hM
    subst hM
    have hC : Tryz.prog.cellsOf 38 = 9 := by kernel_rfl
    rw [hC] at hx
    refine ⟨by omega, fun k hk => ?_⟩
    obtain ⟨g, off, spot⟩ := ad
    have each : ∀ j, j < len → ∃ p : Pn, p.wf ∧ ∀ i v, (pnC p).toList[i]? = some v → w.cell? ((⟨g, off, spot⟩ : Addr).add (j * 9 + i)) = some v := fun j hj => by
      obtain ⟨cs, h1, h2⟩ := hx j (by omega)
      obtain ⟨p, hp, rfl⟩ := openP h2
      obtain ⟨_, _, hc⟩ := World.cells?_some h1
      refine ⟨p, hp, fun i v hv => ?_⟩
      have hi : i < 9 := by
        rcases Nat.lt_or_ge i 9 with h | h
        · exact h
        · rw [List.getElem?_eq_none (by simpa [pnC] using h)] at hv; cases hv
      rw [← Go.Deep.add_add, hc i hi, hv]
    have hs : spot = none := by
      obtain ⟨p, _, ho⟩ := each 0 (by omega)
      have c0 := ho 0 _ rfl
      rw [show (⟨g, off, spot⟩ : Addr).add (0 * 9 + 0) = ⟨g, off, spot⟩ from rfl] at c0
      cases spot with
      | none => rfl
      | some s =>
        exfalso
        unfold World.cell? at c0
        split at c0 <;> simp at c0
    subst hs
    obtain ⟨p, hp, ho⟩ := each k hk
    exact ⟨g, off, p, rfl, hp, fun i v hv => by have := ho i v hv; rw [addM, ← Nat.add_assoc] at this; exact this⟩
end Go.Proofs.YtbeeefekndcgnaaGreatDoor
