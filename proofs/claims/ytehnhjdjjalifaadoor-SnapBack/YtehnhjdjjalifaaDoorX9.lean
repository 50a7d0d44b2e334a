/- The document's own: Load, what it refuses for its form. -/
import Derived.Test.YtehnhjdjjalifaaDoorX8
import Derived.Test.YtehnhjdjjalifaaDoorX7
namespace Go.Proofs.YtehnhjdjjalifaaDoor
open Go Go.RowKit
set_option linter.unusedVariables false
set_option maxHeartbeats 8000000
set_option maxRecDepth 20000

def zBd : Array Value := #[.int .u16 0, .int .u16 0, .int .u16 0, .int .u16 0, .int .u16 0, .int .u16 0, .int .u16 0, .int .u16 0, .int .u16 0, .int .u16 0, .int .u16 0, .int .u16 0, .int .u16 0, .int .u16 0, .int .u16 0, .int .u16 0, .int .u8 0, .bool false, .int .u8 0, .int .u8 0, .int .u8 0, .bool false, .bool false, .int .u8 0, .int .u8 0, .int .u8 0, .int .i64 0, .int .i64 0, .bool false, .int .i64 0, .int .u8 0, .bool false, .slice none 0 0, .slice none 0 0, .int .u64 0]
theorem zBd_one : zBd.all (·.oneCell') = true := by kernel_rfl
theorem ret_cell2 {P : Program} {a : Act} {w : World} {t : TypeId} {n : Nat} {fn : Func} {R' : Ending → World → Prop} {p u : Tmp} {b : Nat} {cs : Array Value} {v : Value} (R : Rt P t n) (hr : fn.results = #[.cell p t, .tmp u]) (hp : a.tmps.getD p undef = .pointer (some ⟨b, 0, none⟩)) (hu : a.tmps.getD u undef = v) (h : Bx w b cs t) (hs : cs.size = n) (hd : a.defers = []) (hR : R' (.returned (.tuple #[.agg cs, v])) w) : bodyPost P fn R' .ret a w := by
  obtain ⟨d, hu9, hd'⟩ := R.u
  refine bodyPost_ret ?_ hd hR
  have hl := run_loadVar_row (P := P) w b t t cs (0, 0) d h hu9 (by cases d <;> first | rfl | exact hd') (by rw [hs]; exact R.i)
  have hp9 : a.tmps[p]?.getD undef = .pointer (some ⟨b, 0, none⟩) := by simpa using hp
  have hu9 : a.tmps[u]?.getD undef = v := by simpa using hu
  simp [results, hr, hp9, hu9, asAddr, hl, Result.andThen]
def flN : Nat → Nat
  | 0 => 37
  | 1 => 41
  | 2 => 42
  | 3 => 49
  | _ => 52
def flC : Array Value := #[.int .i64 37, .int .i64 41, .int .i64 42, .int .i64 49, .int .i64 52]
theorem flC_at (i : Nat) (h : i < 5) : flC[i]? = some (.int .i64 ((flN i : Nat) : Int)) := by
  have : i = 0 ∨ i = 1 ∨ i = 2 ∨ i = 3 ∨ i = 4 := by omega
  rcases this with rfl | rfl | rfl | rfl | rfl <;> rfl
theorem ramN_lt (l : List UInt8) : ramN l < 65536 := by
  have key : ∀ m : List UInt8, m.length ≤ 2 → getN m < 65536 := fun m hm => by
    match m, hm with
    | [], _ => decide
    | [a], _ => have := UInt8.toNat_lt a; simp [getN]; omega
    | [a, b], _ => have h1 := UInt8.toNat_lt a; have h2 := UInt8.toNat_lt b; simp [getN]; omega
  unfold ramN numB
  exact key _ (by rw [List.length_take]; omega)
end Go.Proofs.YtehnhjdjjalifaaDoor
