/- Rows of waves in memory; the document's Wave, Bit and the reading of a byte. -/
import Derived.Test.YtdfjfacilbahkabDoorUa
import Derived.Test.YtdfjfacilbahkabDoorLw
namespace Go.Proofs.YtdfjfacilbahkabDoor
open Go Go.RowKit
set_option linter.unusedVariables false
set_option maxHeartbeats 1000000
set_option maxRecDepth 20000

def c2 (p : Int × Int) : List Value := [.int .i64 p.1, .int .i64 p.2]
theorem infoWa : (Tryd.prog.info? 30).map (fun i => (i.zero, i.size, i.bytes)) = some (some (.agg #[.int .i64 0, .int .i64 0]), 2, 16) := by kernel_rfl
theorem c2_one (p : Int × Int) : ∀ v ∈ c2 p, v.oneCell' = true := fun v hv => by
  simp [c2] at hv
  rcases hv with h | h <;> subst h <;> rfl
theorem c2_all (p : Int × Int) : (c2 p).toArray.all (·.oneCell') = true := by simp [c2, Value.oneCell']
theorem kWave : KdL 25 30 2 16 c2 := by
  obtain ⟨i, hi, e⟩ := Option.map_eq_some_iff.1 infoWa
  injection e with e1 e2
  injection e2 with e2 e3
  exact ⟨Tryd.underlying25, ⟨i, _, hi, e1, e2, e3, rfl⟩, fun _ => rfl, c2_one, by decide, by decide⟩
theorem rtWa : Rt Tryd.prog 30 2 := ⟨⟨_, Tryd.underlying30, rfl⟩, by kernel_rfl⟩
abbrev L2 (x : World) (sp : Option Addr) (l : List (Int × Int)) : Prop := LiesL 2 c2 x sp l
theorem l2_at {x : World} {sp : Option Addr} {l : List (Int × Int)} (h : L2 x sp l) (j : Nat) (p : Int × Int) (hj : l[j]? = some p) : ∃ g o, sp = some ⟨g, o, none⟩ ∧ x.rangeAt g (o + j * 2) (c2 p) ∧ x.cell? ⟨g, o + j * 2, none⟩ = some (.int .i64 p.1) ∧ x.cell? ⟨g, o + j * 2 + 1, none⟩ = some (.int .i64 p.2) := by
  obtain ⟨g, o, e, k⟩ := h j p hj
  exact ⟨g, o, e, k, k 0 _ rfl, k 1 _ rfl⟩
theorem row_at {α : Type} {l : List α} {j n : Nat} (hn : l.length = n) (h : j < n) : ∃ v, l[j]? = some v ∧ l.drop j = v :: l.drop (j + 1) := by
  subst hn
  exact ⟨l[j], by simp [h], by simp⟩
theorem builtWa (x y : Int) : Tryd.prog.built 30 [(0, .int .i64 x), (1, .int .i64 y)] = some (c2 (x, y)).toArray := by kernel_rfl
end Go.Proofs.YtdfjfacilbahkabDoor
