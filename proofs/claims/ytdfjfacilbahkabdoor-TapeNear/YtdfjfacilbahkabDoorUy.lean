/- Bytes that lie in a row, as a string. -/
import Derived.Test.YtdfjfacilbahkabDoorUf
namespace Go.Proofs.YtdfjfacilbahkabDoor
open Go Go.RowKit
set_option linter.unusedVariables false
set_option maxHeartbeats 400000
set_option maxRecDepth 20000

theorem conv_nil (w : World) (cap : Nat) : (convert 22 9 (.slice none 0 cap)).run Tryd.prog w = .ok (.string ⟨#[]⟩) w := by kernel_rfl
/-- Bytes that lie in a row, as a string. -/
theorem LB.conv {w : World} {sp : Option Addr} {l : List UInt8} (h : LB w sp l) (cap : Nat) : (convert 22 9 (.slice sp l.length cap)).run Tryd.prog w = .ok (.string ⟨l.toArray⟩) w := by
  have key : ∀ a : Addr, (∀ j (hj : j < l.length), w.cell? (a.add j) = some (.int .u8 (l[j].toNat : Int))) → (convert 22 9 (.slice (some a) l.length cap)).run Tryd.prog w = .ok (.string ⟨l.toArray⟩) w := fun a hc =>
    run_convert_bytes_back (P := Tryd.prog) w 22 9 5 a cap l Tryd.underlying22 Tryd.underlying5 Tryd.underlying9 (fun j hj => hc j hj)
  cases sp with
  | none =>
    have : l = [] := by
      cases l with
      | nil => rfl
      | cons a r => obtain ⟨g, o, e, _⟩ := h 0 a rfl; cases e
    subst this
    exact conv_nil w cap
  | some a =>
    refine key a fun j hj => ?_
    obtain ⟨g, o, e, c⟩ := lb_at h j _ (List.getElem?_eq_getElem hj)
    cases e
    rw [Addr.add_lit]
    exact c
theorem LB.take {w : World} {sp : Option Addr} {l : List UInt8} (h : LB w sp l) (k : Nat) : LB w sp (l.take k) := fun j a hj => h j a (by
  rw [List.getElem?_take] at hj
  split at hj
  · exact hj
  · cases hj)
end Go.Proofs.YtdfjfacilbahkabDoor
