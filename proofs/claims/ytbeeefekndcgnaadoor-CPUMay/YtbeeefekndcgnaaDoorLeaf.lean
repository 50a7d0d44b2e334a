/- The small functions beneath bits.Do, and what bits.rows lays: a contract each, for all numbers in a byte's range. -/
import Derived.Test.YtbeeefekndcgnaaDoorRows
import Derived.Test.YtbeeefekndcgnaaDoorMath
import Derived.WalkKit
import Derived.WalkSpells
import Derived.WalkLawsBesides
import Derived.Laws.EntriesVeiled
import Derived.Deep.QuietTactic
import Derived.BigQuiet
import Derived.Deep.WholeRow
namespace Go.Proofs.YtbeeefekndcgnaaDoor
open Go.RowKit
set_option linter.unusedVariables false
set_option maxHeartbeats 400000

theorem worth_any (df : Bool) (w : World) :
    Calls Tryd.prog 74 #[.bool df] w fun e w' => e = .returned (.int .i64 (cw df)) ∧ w' = w := by
  cases df
  all_goals
    go_enter Tryd.func74, Tryd.ntmps74
    go_wp2
    go_ret
    exact ⟨rfl, rfl⟩

theorem c27 (d b c : Int) (hd : 0 ≤ d) (hd' : d ≤ 255) (hb : 0 ≤ b) (hb' : b ≤ 255) (hc : 0 ≤ c) (hc' : c ≤ 1) (w : World) :
    Calls Tryd.prog 75 #[.int .i64 d, .int .i64 b, .int .i64 c] w fun e w' => e = .returned (.int .i64 b) ∧ w' = w := by
  go_enter Tryd.func75, Tryd.ntmps75
  go_wp2
  go_ret
  exact ⟨rfl, rfl⟩

theorem c28 (d b c : Int) (hd : 0 ≤ d) (hd' : d ≤ 255) (hb : 0 ≤ b) (hb' : b ≤ 255) (hc : 0 ≤ c) (hc' : c ≤ 1) (w : World) :
    Calls Tryd.prog 76 #[.int .i64 d, .int .i64 b, .int .i64 c] w fun e w' => e = .returned (.bool (c == 1)) ∧ w' = w := by
  go_enter Tryd.func76, Tryd.ntmps76
  go_wp2
  go_ret
  exact ⟨rfl, rfl⟩

theorem c29 (d b c : Int) (hd : 0 ≤ d) (hd' : d ≤ 255) (hb : 0 ≤ b) (hb' : b ≤ 255) (hc : 0 ≤ c) (hc' : c ≤ 1) (w : World) :
    Calls Tryd.prog 77 #[.int .i64 d, .int .i64 b, .int .i64 c] w fun e w' => e = .returned (.int .i64 (bits .or .i64 d b)) ∧ w' = w := by
  go_enter Tryd.func77, Tryd.ntmps77
  go_wp2
  go_ret
  exact ⟨rfl, rfl⟩

theorem c30 (d b c : Int) (hd : 0 ≤ d) (hd' : d ≤ 255) (hb : 0 ≤ b) (hb' : b ≤ 255) (hc : 0 ≤ c) (hc' : c ≤ 1) (w : World) :
    Calls Tryd.prog 78 #[.int .i64 d, .int .i64 b, .int .i64 c] w fun e w' => e = .returned (.int .i64 (bits .and .i64 d b)) ∧ w' = w := by
  go_enter Tryd.func78, Tryd.ntmps78
  go_wp2
  go_ret
  exact ⟨rfl, rfl⟩

theorem c31 (d b c : Int) (hd : 0 ≤ d) (hd' : d ≤ 255) (hb : 0 ≤ b) (hb' : b ≤ 255) (hc : 0 ≤ c) (hc' : c ≤ 1) (w : World) :
    Calls Tryd.prog 79 #[.int .i64 d, .int .i64 b, .int .i64 c] w fun e w' => e = .returned (.int .i64 (bits .xor .i64 d b)) ∧ w' = w := by
  go_enter Tryd.func79, Tryd.ntmps79
  go_wp2
  go_ret
  exact ⟨rfl, rfl⟩

theorem c32 (d b c : Int) (hd : 0 ≤ d) (hd' : d ≤ 255) (hb : 0 ≤ b) (hb' : b ≤ 255) (hc : 0 ≤ c) (hc' : c ≤ 1) (w : World) :
    Calls Tryd.prog 80 #[.int .i64 d, .int .i64 b, .int .i64 c] w fun e w' => e = .returned (.int .i64 (d + b)) ∧ w' = w := by
  go_enter Tryd.func80, Tryd.ntmps80
  go_wp2
  go_ret
  exact ⟨rfl, rfl⟩

theorem c33 (d b c : Int) (hd : 0 ≤ d) (hd' : d ≤ 255) (hb : 0 ≤ b) (hb' : b ≤ 255) (hc : 0 ≤ c) (hc' : c ≤ 1) (w : World) :
    Calls Tryd.prog 81 #[.int .i64 d, .int .i64 b, .int .i64 c] w fun e w' => e = .returned (.bool (decide (255 < d + b))) ∧ w' = w := by
  go_enter Tryd.func81, Tryd.ntmps81
  go_wp2
  go_ret
  exact ⟨rfl, rfl⟩

theorem c34 (d b c : Int) (hd : 0 ≤ d) (hd' : d ≤ 255) (hb : 0 ≤ b) (hb' : b ≤ 255) (hc : 0 ≤ c) (hc' : c ≤ 1) (w : World) :
    Calls Tryd.prog 82 #[.int .i64 d, .int .i64 b, .int .i64 c] w fun e w' => e = .returned (.int .i64 (d + b + c)) ∧ w' = w := by
  go_enter Tryd.func82, Tryd.ntmps82
  go_wp2
  go_ret
  exact ⟨rfl, rfl⟩

theorem c35 (d b c : Int) (hd : 0 ≤ d) (hd' : d ≤ 255) (hb : 0 ≤ b) (hb' : b ≤ 255) (hc : 0 ≤ c) (hc' : c ≤ 1) (w : World) :
    Calls Tryd.prog 83 #[.int .i64 d, .int .i64 b, .int .i64 c] w fun e w' => e = .returned (.bool (decide (255 < d + b + c))) ∧ w' = w := by
  go_enter Tryd.func83, Tryd.ntmps83
  go_wp2
  go_ret
  exact ⟨rfl, rfl⟩

theorem c36 (d b c : Int) (hd : 0 ≤ d) (hd' : d ≤ 255) (hb : 0 ≤ b) (hb' : b ≤ 255) (hc : 0 ≤ c) (hc' : c ≤ 1) (w : World) :
    Calls Tryd.prog 84 #[.int .i64 d, .int .i64 b, .int .i64 c] w fun e w' => e = .returned (.int .i64 (b - d)) ∧ w' = w := by
  go_enter Tryd.func84, Tryd.ntmps84
  go_wp2
  go_ret
  exact ⟨rfl, rfl⟩

theorem c37 (d b c : Int) (hd : 0 ≤ d) (hd' : d ≤ 255) (hb : 0 ≤ b) (hb' : b ≤ 255) (hc : 0 ≤ c) (hc' : c ≤ 1) (w : World) :
    Calls Tryd.prog 85 #[.int .i64 d, .int .i64 b, .int .i64 c] w fun e w' => e = .returned (.bool (decide (d ≤ b))) ∧ w' = w := by
  go_enter Tryd.func85, Tryd.ntmps85
  go_wp2
  go_ret
  exact ⟨rfl, rfl⟩

theorem c38 (d b c : Int) (hd : 0 ≤ d) (hd' : d ≤ 255) (hb : 0 ≤ b) (hb' : b ≤ 255) (hc : 0 ≤ c) (hc' : c ≤ 1) (w : World) :
    Calls Tryd.prog 86 #[.int .i64 d, .int .i64 b, .int .i64 c] w fun e w' => e = .returned (.int .i64 (b - d - 1 + c)) ∧ w' = w := by
  go_enter Tryd.func86, Tryd.ntmps86
  go_wp2
  go_ret
  exact ⟨rfl, rfl⟩

theorem c39 (d b c : Int) (hd : 0 ≤ d) (hd' : d ≤ 255) (hb : 0 ≤ b) (hb' : b ≤ 255) (hc : 0 ≤ c) (hc' : c ≤ 1) (w : World) :
    Calls Tryd.prog 87 #[.int .i64 d, .int .i64 b, .int .i64 c] w fun e w' => e = .returned (.bool (decide (d < b + c))) ∧ w' = w := by
  go_enter Tryd.func87, Tryd.ntmps87
  go_wp2
  go_ret
  exact ⟨rfl, rfl⟩

theorem c40 (d b c : Int) (hd : 0 ≤ d) (hd' : d ≤ 255) (hb : 0 ≤ b) (hb' : b ≤ 255) (hc : 0 ≤ c) (hc' : c ≤ 1) (w : World) :
    Calls Tryd.prog 88 #[.int .i64 d, .int .i64 b, .int .i64 c] w fun e w' => e = .returned (.int .i64 (d - b)) ∧ w' = w := by
  go_enter Tryd.func88, Tryd.ntmps88
  go_wp2
  go_ret
  exact ⟨rfl, rfl⟩

theorem c41 (d b c : Int) (hd : 0 ≤ d) (hd' : d ≤ 255) (hb : 0 ≤ b) (hb' : b ≤ 255) (hc : 0 ≤ c) (hc' : c ≤ 1) (w : World) :
    Calls Tryd.prog 89 #[.int .i64 d, .int .i64 b, .int .i64 c] w fun e w' => e = .returned (.bool (decide (b ≤ d))) ∧ w' = w := by
  go_enter Tryd.func89, Tryd.ntmps89
  go_wp2
  go_ret
  exact ⟨rfl, rfl⟩

theorem c42 (d b c : Int) (hd : 0 ≤ d) (hd' : d ≤ 255) (hb : 0 ≤ b) (hb' : b ≤ 255) (hc : 0 ≤ c) (hc' : c ≤ 1) (w : World) :
    Calls Tryd.prog 90 #[.int .i64 d, .int .i64 b, .int .i64 c] w fun e w' => e = .returned (.int .i64 (d - b - 1 + c)) ∧ w' = w := by
  go_enter Tryd.func90, Tryd.ntmps90
  go_wp2
  go_ret
  exact ⟨rfl, rfl⟩

theorem c43 (d b c : Int) (hd : 0 ≤ d) (hd' : d ≤ 255) (hb : 0 ≤ b) (hb' : b ≤ 255) (hc : 0 ≤ c) (hc' : c ≤ 1) (w : World) :
    Calls Tryd.prog 91 #[.int .i64 d, .int .i64 b, .int .i64 c] w fun e w' => e = .returned (.bool (decide (b < d + c))) ∧ w' = w := by
  go_enter Tryd.func91, Tryd.ntmps91
  go_wp2
  go_ret
  exact ⟨rfl, rfl⟩

theorem c44 (d b c : Int) (hd : 0 ≤ d) (hd' : d ≤ 255) (hb : 0 ≤ b) (hb' : b ≤ 255) (hc : 0 ≤ c) (hc' : c ≤ 1) (w : World) :
    Calls Tryd.prog 92 #[.int .i64 d, .int .i64 b, .int .i64 c] w fun e w' => e = .returned (.int .i64 (d / 2)) ∧ w' = w := by
  go_enter Tryd.func92, Tryd.ntmps92
  go_wp2
  go_ret
  exact ⟨rfl, rfl⟩

theorem c45 (d b c : Int) (hd : 0 ≤ d) (hd' : d ≤ 255) (hb : 0 ≤ b) (hb' : b ≤ 255) (hc : 0 ≤ c) (hc' : c ≤ 1) (w : World) :
    Calls Tryd.prog 93 #[.int .i64 d, .int .i64 b, .int .i64 c] w fun e w' => e = .returned (.bool (bits .and .i64 d 1 == 1)) ∧ w' = w := by
  go_enter Tryd.func93, Tryd.ntmps93
  go_wp2
  go_ret
  exact ⟨rfl, rfl⟩

theorem c46 (d b c : Int) (hd : 0 ≤ d) (hd' : d ≤ 255) (hb : 0 ≤ b) (hb' : b ≤ 255) (hc : 0 ≤ c) (hc' : c ≤ 1) (w : World) :
    Calls Tryd.prog 94 #[.int .i64 d, .int .i64 b, .int .i64 c] w fun e w' => e = .returned (.int .i64 (bits .or .i64 (d / 2) (c * 128))) ∧ w' = w := by
  go_enter Tryd.func94, Tryd.ntmps94
  go_wp2
  go_ret
  exact ⟨rfl, rfl⟩

theorem c47 (d b c : Int) (hd : 0 ≤ d) (hd' : d ≤ 255) (hb : 0 ≤ b) (hb' : b ≤ 255) (hc : 0 ≤ c) (hc' : c ≤ 1) (w : World) :
    Calls Tryd.prog 95 #[.int .i64 d, .int .i64 b, .int .i64 c] w fun e w' => e = .returned (.int .i64 (d * 2)) ∧ w' = w := by
  go_enter Tryd.func95, Tryd.ntmps95
  go_wp2
  go_ret
  exact ⟨rfl, rfl⟩

theorem c48 (d b c : Int) (hd : 0 ≤ d) (hd' : d ≤ 255) (hb : 0 ≤ b) (hb' : b ≤ 255) (hc : 0 ≤ c) (hc' : c ≤ 1) (w : World) :
    Calls Tryd.prog 96 #[.int .i64 d, .int .i64 b, .int .i64 c] w fun e w' => e = .returned (.bool (bits .and .i64 d 128 != 0)) ∧ w' = w := by
  go_enter Tryd.func96, Tryd.ntmps96
  go_wp2
  go_ret
  exact ⟨rfl, rfl⟩

theorem c49 (d b c : Int) (hd : 0 ≤ d) (hd' : d ≤ 255) (hb : 0 ≤ b) (hb' : b ≤ 255) (hc : 0 ≤ c) (hc' : c ≤ 1) (w : World) :
    Calls Tryd.prog 97 #[.int .i64 d, .int .i64 b, .int .i64 c] w fun e w' => e = .returned (.int .i64 (bits .or .i64 (d * 2) c)) ∧ w' = w := by
  go_enter Tryd.func97, Tryd.ntmps97
  go_wp2
  go_ret
  exact ⟨rfl, rfl⟩

theorem rowst {P : Program} {ops : Array Oper} {rest : List Oper} {o : Oper} {a : Act} {w : World} {Q : Exit → Act → World → Prop} (hgd : o.guard = none) (ty : TypeId) (x y : Operand) (ho : o.op = .store ty x y)
    (cells : Array Value) (hx : a.eval x = .pointer (some ⟨w.heap.size, 0, none⟩)) (hy : a.eval y = .agg cells)
    (old : Array Value) (hi : (P.info? ty).map (·.size) = some cells.size)
    (hold : old.size = cells.size) (h1 : cells.all (·.oneCell') = true)
    (h : wpList P ops Q rest (a.put o.dst undef) (w.alloc (.cells cells ty))) : wpList P ops Q (o :: rest) a (w.alloc (.cells old ty)) :=
  wpList_store_row hgd ty x y ho w.heap.size cells hx hy ty old (heap_alloc_last w _) hi hold h1 (by rw [World.setRow_alloc_new]; exact h)

theorem rowst1 {P : Program} {ops : Array Oper} {rest : List Oper} {o : Oper} {a : Act} {w : World} {O : Obj} {Q : Exit → Act → World → Prop} (hgd : o.guard = none) (ty : TypeId) (x y : Operand) (ho : o.op = .store ty x y)
    (cells : Array Value) (hx : a.eval x = .pointer (some ⟨w.heap.size + 1, 0, none⟩)) (hy : a.eval y = .agg cells)
    (old : Array Value) (hi : (P.info? ty).map (·.size) = some cells.size)
    (hold : old.size = cells.size) (h1 : cells.all (·.oneCell') = true)
    (h : wpList P ops Q rest (a.put o.dst undef) ((w.alloc O).alloc (.cells cells ty))) : wpList P ops Q (o :: rest) a ((w.alloc O).alloc (.cells old ty)) :=
  rowst hgd ty x y ho cells (by rw [hx]; simp) hy old hi hold h1 h

def fv (n : Nat) : Value := .func (.func n) #[] #[]
def tab : Array Value := #[fv 75, fv 76, fv 77, fv 76, fv 78, fv 76, fv 79, fv 76, fv 80, fv 81, fv 82, fv 83, fv 84, fv 85, fv 86, fv 87, fv 88, fv 89, fv 90, fv 91, fv 92, fv 93, fv 94, fv 93, fv 95, fv 96, fv 97, fv 96]

set_option maxRecDepth 100000 in
theorem rows_any (w : World) :
    Calls Tryd.prog 73 #[] w fun e w' => e = .returned (.agg tab) ∧ w' = w.alloc (.cells tab 96) := by
  go_enter Tryd.func73, Tryd.ntmps73
  go_wp2_with (refine rowst rfl 96 _ _ rfl tab rfl rfl _ (by kernel_rfl) (by kernel_rfl) (by kernel_rfl) ?_)
  exact bodyPost_ret (v := .agg tab) (results_cell_row rfl _ _ w.heap.size 96 tab (0, 0) _ (by kernel_rfl) (heap_alloc_last w _) Tryd.underlying96 rfl (by kernel_rfl)) rfl ⟨rfl, rfl⟩
end Go.Proofs.YtbeeefekndcgnaaDoor
