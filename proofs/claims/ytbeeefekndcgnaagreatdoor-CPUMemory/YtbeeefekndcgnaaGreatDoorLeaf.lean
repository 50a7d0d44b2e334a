/- The small functions beneath bits.Do, and what bits.rows lays: a contract each, for all numbers in a byte's range. -/
import Derived.Test.YtbeeefekndcgnaaGreatDoorRows
import Derived.Test.YtbeeefekndcgnaaGreatDoorMath
import Derived.WalkKit
import Derived.WalkSpells
import Derived.WalkLawsBesides
import Derived.Laws.EntriesVeiled
import Derived.Deep.QuietTactic
import Derived.BigQuiet
import Derived.Deep.WholeRow
namespace Go.Proofs.YtbeeefekndcgnaaGreatDoor
open Go.RowKit
set_option linter.unusedVariables false
set_option maxHeartbeats 400000

theorem worth_any (df : Bool) (w : World) :
    Calls Tryz.prog 105 #[.bool df] w fun e w' => e = .returned (.int .i64 (cw df)) ∧ w' = w := by
  cases df
  all_goals
    go_enter Tryz.func105, Tryz.ntmps105
    go_wp2
    go_ret
    exact ⟨rfl, rfl⟩

theorem c27 (d b c : Int) (hd : 0 ≤ d) (hd' : d ≤ 255) (hb : 0 ≤ b) (hb' : b ≤ 255) (hc : 0 ≤ c) (hc' : c ≤ 1) (w : World) :
    Calls Tryz.prog 106 #[.int .i64 d, .int .i64 b, .int .i64 c] w fun e w' => e = .returned (.int .i64 b) ∧ w' = w := by
  go_enter Tryz.func106, Tryz.ntmps106
  go_wp2
  go_ret
  exact ⟨rfl, rfl⟩

theorem c28 (d b c : Int) (hd : 0 ≤ d) (hd' : d ≤ 255) (hb : 0 ≤ b) (hb' : b ≤ 255) (hc : 0 ≤ c) (hc' : c ≤ 1) (w : World) :
    Calls Tryz.prog 107 #[.int .i64 d, .int .i64 b, .int .i64 c] w fun e w' => e = .returned (.bool (c == 1)) ∧ w' = w := by
  go_enter Tryz.func107, Tryz.ntmps107
  go_wp2
  go_ret
  exact ⟨rfl, rfl⟩

theorem c29 (d b c : Int) (hd : 0 ≤ d) (hd' : d ≤ 255) (hb : 0 ≤ b) (hb' : b ≤ 255) (hc : 0 ≤ c) (hc' : c ≤ 1) (w : World) :
    Calls Tryz.prog 108 #[.int .i64 d, .int .i64 b, .int .i64 c] w fun e w' => e = .returned (.int .i64 (bits .or .i64 d b)) ∧ w' = w := by
  go_enter Tryz.func108, Tryz.ntmps108
  go_wp2
  go_ret
  exact ⟨rfl, rfl⟩

theorem c30 (d b c : Int) (hd : 0 ≤ d) (hd' : d ≤ 255) (hb : 0 ≤ b) (hb' : b ≤ 255) (hc : 0 ≤ c) (hc' : c ≤ 1) (w : World) :
    Calls Tryz.prog 109 #[.int .i64 d, .int .i64 b, .int .i64 c] w fun e w' => e = .returned (.int .i64 (bits .and .i64 d b)) ∧ w' = w := by
  go_enter Tryz.func109, Tryz.ntmps109
  go_wp2
  go_ret
  exact ⟨rfl, rfl⟩

theorem c31 (d b c : Int) (hd : 0 ≤ d) (hd' : d ≤ 255) (hb : 0 ≤ b) (hb' : b ≤ 255) (hc : 0 ≤ c) (hc' : c ≤ 1) (w : World) :
    Calls Tryz.prog 110 #[.int .i64 d, .int .i64 b, .int .i64 c] w fun e w' => e = .returned (.int .i64 (bits .xor .i64 d b)) ∧ w' = w := by
  go_enter Tryz.func110, Tryz.ntmps110
  go_wp2
  go_ret
  exact ⟨rfl, rfl⟩

theorem c32 (d b c : Int) (hd : 0 ≤ d) (hd' : d ≤ 255) (hb : 0 ≤ b) (hb' : b ≤ 255) (hc : 0 ≤ c) (hc' : c ≤ 1) (w : World) :
    Calls Tryz.prog 111 #[.int .i64 d, .int .i64 b, .int .i64 c] w fun e w' => e = .returned (.int .i64 (d + b)) ∧ w' = w := by
  go_enter Tryz.func111, Tryz.ntmps111
  go_wp2
  go_ret
  exact ⟨rfl, rfl⟩

theorem c33 (d b c : Int) (hd : 0 ≤ d) (hd' : d ≤ 255) (hb : 0 ≤ b) (hb' : b ≤ 255) (hc : 0 ≤ c) (hc' : c ≤ 1) (w : World) :
    Calls Tryz.prog 112 #[.int .i64 d, .int .i64 b, .int .i64 c] w fun e w' => e = .returned (.bool (decide (255 < d + b))) ∧ w' = w := by
  go_enter Tryz.func112, Tryz.ntmps112
  go_wp2
  go_ret
  exact ⟨rfl, rfl⟩

theorem c34 (d b c : Int) (hd : 0 ≤ d) (hd' : d ≤ 255) (hb : 0 ≤ b) (hb' : b ≤ 255) (hc : 0 ≤ c) (hc' : c ≤ 1) (w : World) :
    Calls Tryz.prog 113 #[.int .i64 d, .int .i64 b, .int .i64 c] w fun e w' => e = .returned (.int .i64 (d + b + c)) ∧ w' = w := by
  go_enter Tryz.func113, Tryz.ntmps113
  go_wp2
  go_ret
  exact ⟨rfl, rfl⟩

theorem c35 (d b c : Int) (hd : 0 ≤ d) (hd' : d ≤ 255) (hb : 0 ≤ b) (hb' : b ≤ 255) (hc : 0 ≤ c) (hc' : c ≤ 1) (w : World) :
    Calls Tryz.prog 114 #[.int .i64 d, .int .i64 b, .int .i64 c] w fun e w' => e = .returned (.bool (decide (255 < d + b + c))) ∧ w' = w := by
  go_enter Tryz.func114, Tryz.ntmps114
  go_wp2
  go_ret
  exact ⟨rfl, rfl⟩

theorem c36 (d b c : Int) (hd : 0 ≤ d) (hd' : d ≤ 255) (hb : 0 ≤ b) (hb' : b ≤ 255) (hc : 0 ≤ c) (hc' : c ≤ 1) (w : World) :
    Calls Tryz.prog 115 #[.int .i64 d, .int .i64 b, .int .i64 c] w fun e w' => e = .returned (.int .i64 (b - d)) ∧ w' = w := by
  go_enter Tryz.func115, Tryz.ntmps115
  go_wp2
  go_ret
  exact ⟨rfl, rfl⟩

theorem c37 (d b c : Int) (hd : 0 ≤ d) (hd' : d ≤ 255) (hb : 0 ≤ b) (hb' : b ≤ 255) (hc : 0 ≤ c) (hc' : c ≤ 1) (w : World) :
    Calls Tryz.prog 116 #[.int .i64 d, .int .i64 b, .int .i64 c] w fun e w' => e = .returned (.bool (decide (d ≤ b))) ∧ w' = w := by
  go_enter Tryz.func116, Tryz.ntmps116
  go_wp2
  go_ret
  exact ⟨rfl, rfl⟩

theorem c38 (d b c : Int) (hd : 0 ≤ d) (hd' : d ≤ 255) (hb : 0 ≤ b) (hb' : b ≤ 255) (hc : 0 ≤ c) (hc' : c ≤ 1) (w : World) :
    Calls Tryz.prog 117 #[.int .i64 d, .int .i64 b, .int .i64 c] w fun e w' => e = .returned (.int .i64 (b - d - 1 + c)) ∧ w' = w := by
  go_enter Tryz.func117, Tryz.ntmps117
  go_wp2
  go_ret
  exact ⟨rfl, rfl⟩

theorem c39 (d b c : Int) (hd : 0 ≤ d) (hd' : d ≤ 255) (hb : 0 ≤ b) (hb' : b ≤ 255) (hc : 0 ≤ c) (hc' : c ≤ 1) (w : World) :
    Calls Tryz.prog 118 #[.int .i64 d, .int .i64 b, .int .i64 c] w fun e w' => e = .returned (.bool (decide (d < b + c))) ∧ w' = w := by
  go_enter Tryz.func118, Tryz.ntmps118
  go_wp2
  go_ret
  exact ⟨rfl, rfl⟩

theorem c40 (d b c : Int) (hd : 0 ≤ d) (hd' : d ≤ 255) (hb : 0 ≤ b) (hb' : b ≤ 255) (hc : 0 ≤ c) (hc' : c ≤ 1) (w : World) :
    Calls Tryz.prog 119 #[.int .i64 d, .int .i64 b, .int .i64 c] w fun e w' => e = .returned (.int .i64 (d - b)) ∧ w' = w := by
  go_enter Tryz.func119, Tryz.ntmps119
  go_wp2
  go_ret
  exact ⟨rfl, rfl⟩

theorem c41 (d b c : Int) (hd : 0 ≤ d) (hd' : d ≤ 255) (hb : 0 ≤ b) (hb' : b ≤ 255) (hc : 0 ≤ c) (hc' : c ≤ 1) (w : World) :
    Calls Tryz.prog 120 #[.int .i64 d, .int .i64 b, .int .i64 c] w fun e w' => e = .returned (.bool (decide (b ≤ d))) ∧ w' = w := by
  go_enter Tryz.func120, Tryz.ntmps120
  go_wp2
  go_ret
  exact ⟨rfl, rfl⟩

theorem c42 (d b c : Int) (hd : 0 ≤ d) (hd' : d ≤ 255) (hb : 0 ≤ b) (hb' : b ≤ 255) (hc : 0 ≤ c) (hc' : c ≤ 1) (w : World) :
    Calls Tryz.prog 121 #[.int .i64 d, .int .i64 b, .int .i64 c] w fun e w' => e = .returned (.int .i64 (d - b - 1 + c)) ∧ w' = w := by
  go_enter Tryz.func121, Tryz.ntmps121
  go_wp2
  go_ret
  exact ⟨rfl, rfl⟩

theorem c43 (d b c : Int) (hd : 0 ≤ d) (hd' : d ≤ 255) (hb : 0 ≤ b) (hb' : b ≤ 255) (hc : 0 ≤ c) (hc' : c ≤ 1) (w : World) :
    Calls Tryz.prog 122 #[.int .i64 d, .int .i64 b, .int .i64 c] w fun e w' => e = .returned (.bool (decide (b < d + c))) ∧ w' = w := by
  go_enter Tryz.func122, Tryz.ntmps122
  go_wp2
  go_ret
  exact ⟨rfl, rfl⟩

theorem c44 (d b c : Int) (hd : 0 ≤ d) (hd' : d ≤ 255) (hb : 0 ≤ b) (hb' : b ≤ 255) (hc : 0 ≤ c) (hc' : c ≤ 1) (w : World) :
    Calls Tryz.prog 123 #[.int .i64 d, .int .i64 b, .int .i64 c] w fun e w' => e = .returned (.int .i64 (d / 2)) ∧ w' = w := by
  go_enter Tryz.func123, Tryz.ntmps123
  go_wp2
  go_ret
  exact ⟨rfl, rfl⟩

theorem c45 (d b c : Int) (hd : 0 ≤ d) (hd' : d ≤ 255) (hb : 0 ≤ b) (hb' : b ≤ 255) (hc : 0 ≤ c) (hc' : c ≤ 1) (w : World) :
    Calls Tryz.prog 124 #[.int .i64 d, .int .i64 b, .int .i64 c] w fun e w' => e = .returned (.bool (bits .and .i64 d 1 == 1)) ∧ w' = w := by
  go_enter Tryz.func124, Tryz.ntmps124
  go_wp2
  go_ret
  exact ⟨rfl, rfl⟩

theorem c46 (d b c : Int) (hd : 0 ≤ d) (hd' : d ≤ 255) (hb : 0 ≤ b) (hb' : b ≤ 255) (hc : 0 ≤ c) (hc' : c ≤ 1) (w : World) :
    Calls Tryz.prog 125 #[.int .i64 d, .int .i64 b, .int .i64 c] w fun e w' => e = .returned (.int .i64 (bits .or .i64 (d / 2) (c * 128))) ∧ w' = w := by
  go_enter Tryz.func125, Tryz.ntmps125
  go_wp2
  go_ret
  exact ⟨rfl, rfl⟩

theorem c47 (d b c : Int) (hd : 0 ≤ d) (hd' : d ≤ 255) (hb : 0 ≤ b) (hb' : b ≤ 255) (hc : 0 ≤ c) (hc' : c ≤ 1) (w : World) :
    Calls Tryz.prog 126 #[.int .i64 d, .int .i64 b, .int .i64 c] w fun e w' => e = .returned (.int .i64 (d * 2)) ∧ w' = w := by
  go_enter Tryz.func126, Tryz.ntmps126
  go_wp2
  go_ret
  exact ⟨rfl, rfl⟩

theorem c48 (d b c : Int) (hd : 0 ≤ d) (hd' : d ≤ 255) (hb : 0 ≤ b) (hb' : b ≤ 255) (hc : 0 ≤ c) (hc' : c ≤ 1) (w : World) :
    Calls Tryz.prog 127 #[.int .i64 d, .int .i64 b, .int .i64 c] w fun e w' => e = .returned (.bool (bits .and .i64 d 128 != 0)) ∧ w' = w := by
  go_enter Tryz.func127, Tryz.ntmps127
  go_wp2
  go_ret
  exact ⟨rfl, rfl⟩

theorem c49 (d b c : Int) (hd : 0 ≤ d) (hd' : d ≤ 255) (hb : 0 ≤ b) (hb' : b ≤ 255) (hc : 0 ≤ c) (hc' : c ≤ 1) (w : World) :
    Calls Tryz.prog 128 #[.int .i64 d, .int .i64 b, .int .i64 c] w fun e w' => e = .returned (.int .i64 (bits .or .i64 (d * 2) c)) ∧ w' = w := by
  go_enter Tryz.func128, Tryz.ntmps128
  go_wp2
  go_ret
  exact ⟨rfl, rfl⟩

theorem rowst {P : Program} {ops : Array Oper} {rest : List Oper} {o : Oper} {a : Act} {w : World} {Q : Exit → Act → World → Prop} (hgd : o.guard = none) (ty : TypeId) (x y : Operand) (ho : o.op = .store ty x y)
    (cells : Array Value) (hx : a.eval x = .pointer (some ⟨w.heap.size, 0, none⟩)) (hy : a.eval y = .agg cells)
    (old : Array Value) (hi : (P.info? ty).map (·.size) = some cells.size)
    (hold : old.size = cells.size) (h1 : cells.all (·.oneCell') = true)
    (h : wpList P ops Q rest (a.put o.dst undef) (w.alloc (.cells cells ty))) : wpList P ops Q (o :: rest) a (w.alloc (.cells old ty)) :=
  wpList_store_row hgd ty x y ho w.heap.size cells hx hy ty old (heap_alloc_last w _) hi hold h1 (by rw [World.setRow_alloc_new]; exact h)

theorem rowst1 {P : Program} {ops : Array Oper} {rest : List Oper} {o : Oper} {a : Act} {w : World} {O : Obj} {Q : Exit → Act → World → Prop} (hgd : o.guard = none) (ty : TypeId) (x y : Operand) (ho : o.op = .store ty x y)
    (cells : Array Value) (hx : a.eval x = .pointer (some ⟨w.heap.size + 1, 0, none⟩)) (hy : a.eval y = .agg cells)
    (old : Array Value) (hi : (P.info? ty).map (·.size) = some cells.size)
    (hold : old.size = cells.size) (h1 : cells.all (·.oneCell') = true)
    (h : wpList P ops Q rest (a.put o.dst undef) ((w.alloc O).alloc (.cells cells ty))) : wpList P ops Q (o :: rest) a ((w.alloc O).alloc (.cells old ty)) :=
  rowst hgd ty x y ho cells (by rw [hx]; simp) hy old hi hold h1 h

def fv (n : Nat) : Value := .func (.func n) #[] #[]
def tab : Array Value := #[fv 106, fv 107, fv 108, fv 107, fv 109, fv 107, fv 110, fv 107, fv 111, fv 112, fv 113, fv 114, fv 115, fv 116, fv 117, fv 118, fv 119, fv 120, fv 121, fv 122, fv 123, fv 124, fv 125, fv 124, fv 126, fv 127, fv 128, fv 127]

set_option maxRecDepth 100000 in
theorem rows_any (w : World) :
    Calls Tryz.prog 104 #[] w fun e w' => e = .returned (.agg tab) ∧ w' = w.alloc (.cells tab 108) := by
  go_enter Tryz.func104, Tryz.ntmps104
  go_wp2_with (refine rowst rfl 108 _ _ rfl tab rfl rfl _ (by kernel_rfl) (by kernel_rfl) (by kernel_rfl) ?_)
  exact bodyPost_ret (v := .agg tab) (results_cell_row rfl _ _ w.heap.size 108 tab (0, 0) _ (by kernel_rfl) (heap_alloc_last w _) Tryz.underlying108 rfl (by kernel_rfl)) rfl ⟨rfl, rfl⟩
end Go.Proofs.YtbeeefekndcgnaaGreatDoor
