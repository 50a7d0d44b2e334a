/- The small functions beneath bits.Do, and what bits.rows lays: a contract each, for all numbers in a byte's range. -/
import Derived.Test.YtcljbfembnbeiabRows
import Derived.Test.YtcljbfembnbeiabMath
import Derived.WalkKit
import Derived.WalkSpells
import Derived.WalkLawsBesides
import Derived.Laws.EntriesVeiled
import Derived.Deep.QuietTactic
import Derived.BigQuiet
import Derived.Deep.WholeRow
namespace Go.Proofs.Ytcljbfembnbeiab
open Go.RowKit
set_option linter.unusedVariables false
set_option maxHeartbeats 400000

theorem worth_any (df : Bool) (w : World) :
    Calls Try.prog 12 #[.bool df] w fun e w' => e = .returned (.int .i64 (cw df)) ∧ w' = w := by
  cases df
  all_goals
    go_enter Try.func12, Try.ntmps12
    go_wp2
    go_ret
    exact ⟨rfl, rfl⟩

theorem c27 (d b c : Int) (hd : 0 ≤ d) (hd' : d ≤ 255) (hb : 0 ≤ b) (hb' : b ≤ 255) (hc : 0 ≤ c) (hc' : c ≤ 1) (w : World) :
    Calls Try.prog 15 #[.int .i64 d, .int .i64 b, .int .i64 c] w fun e w' => e = .returned (.int .i64 b) ∧ w' = w := by
  go_enter Try.func15, Try.ntmps15
  go_wp2
  go_ret
  exact ⟨rfl, rfl⟩

theorem c28 (d b c : Int) (hd : 0 ≤ d) (hd' : d ≤ 255) (hb : 0 ≤ b) (hb' : b ≤ 255) (hc : 0 ≤ c) (hc' : c ≤ 1) (w : World) :
    Calls Try.prog 16 #[.int .i64 d, .int .i64 b, .int .i64 c] w fun e w' => e = .returned (.bool (c == 1)) ∧ w' = w := by
  go_enter Try.func16, Try.ntmps16
  go_wp2
  go_ret
  exact ⟨rfl, rfl⟩

theorem c29 (d b c : Int) (hd : 0 ≤ d) (hd' : d ≤ 255) (hb : 0 ≤ b) (hb' : b ≤ 255) (hc : 0 ≤ c) (hc' : c ≤ 1) (w : World) :
    Calls Try.prog 17 #[.int .i64 d, .int .i64 b, .int .i64 c] w fun e w' => e = .returned (.int .i64 (bits .or .i64 d b)) ∧ w' = w := by
  go_enter Try.func17, Try.ntmps17
  go_wp2
  go_ret
  exact ⟨rfl, rfl⟩

theorem c30 (d b c : Int) (hd : 0 ≤ d) (hd' : d ≤ 255) (hb : 0 ≤ b) (hb' : b ≤ 255) (hc : 0 ≤ c) (hc' : c ≤ 1) (w : World) :
    Calls Try.prog 18 #[.int .i64 d, .int .i64 b, .int .i64 c] w fun e w' => e = .returned (.int .i64 (bits .and .i64 d b)) ∧ w' = w := by
  go_enter Try.func18, Try.ntmps18
  go_wp2
  go_ret
  exact ⟨rfl, rfl⟩

theorem c31 (d b c : Int) (hd : 0 ≤ d) (hd' : d ≤ 255) (hb : 0 ≤ b) (hb' : b ≤ 255) (hc : 0 ≤ c) (hc' : c ≤ 1) (w : World) :
    Calls Try.prog 19 #[.int .i64 d, .int .i64 b, .int .i64 c] w fun e w' => e = .returned (.int .i64 (bits .xor .i64 d b)) ∧ w' = w := by
  go_enter Try.func19, Try.ntmps19
  go_wp2
  go_ret
  exact ⟨rfl, rfl⟩

theorem c32 (d b c : Int) (hd : 0 ≤ d) (hd' : d ≤ 255) (hb : 0 ≤ b) (hb' : b ≤ 255) (hc : 0 ≤ c) (hc' : c ≤ 1) (w : World) :
    Calls Try.prog 20 #[.int .i64 d, .int .i64 b, .int .i64 c] w fun e w' => e = .returned (.int .i64 (d + b)) ∧ w' = w := by
  go_enter Try.func20, Try.ntmps20
  go_wp2
  go_ret
  exact ⟨rfl, rfl⟩

theorem c33 (d b c : Int) (hd : 0 ≤ d) (hd' : d ≤ 255) (hb : 0 ≤ b) (hb' : b ≤ 255) (hc : 0 ≤ c) (hc' : c ≤ 1) (w : World) :
    Calls Try.prog 21 #[.int .i64 d, .int .i64 b, .int .i64 c] w fun e w' => e = .returned (.bool (decide (255 < d + b))) ∧ w' = w := by
  go_enter Try.func21, Try.ntmps21
  go_wp2
  go_ret
  exact ⟨rfl, rfl⟩

theorem c34 (d b c : Int) (hd : 0 ≤ d) (hd' : d ≤ 255) (hb : 0 ≤ b) (hb' : b ≤ 255) (hc : 0 ≤ c) (hc' : c ≤ 1) (w : World) :
    Calls Try.prog 22 #[.int .i64 d, .int .i64 b, .int .i64 c] w fun e w' => e = .returned (.int .i64 (d + b + c)) ∧ w' = w := by
  go_enter Try.func22, Try.ntmps22
  go_wp2
  go_ret
  exact ⟨rfl, rfl⟩

theorem c35 (d b c : Int) (hd : 0 ≤ d) (hd' : d ≤ 255) (hb : 0 ≤ b) (hb' : b ≤ 255) (hc : 0 ≤ c) (hc' : c ≤ 1) (w : World) :
    Calls Try.prog 23 #[.int .i64 d, .int .i64 b, .int .i64 c] w fun e w' => e = .returned (.bool (decide (255 < d + b + c))) ∧ w' = w := by
  go_enter Try.func23, Try.ntmps23
  go_wp2
  go_ret
  exact ⟨rfl, rfl⟩

theorem c36 (d b c : Int) (hd : 0 ≤ d) (hd' : d ≤ 255) (hb : 0 ≤ b) (hb' : b ≤ 255) (hc : 0 ≤ c) (hc' : c ≤ 1) (w : World) :
    Calls Try.prog 24 #[.int .i64 d, .int .i64 b, .int .i64 c] w fun e w' => e = .returned (.int .i64 (b - d)) ∧ w' = w := by
  go_enter Try.func24, Try.ntmps24
  go_wp2
  go_ret
  exact ⟨rfl, rfl⟩

theorem c37 (d b c : Int) (hd : 0 ≤ d) (hd' : d ≤ 255) (hb : 0 ≤ b) (hb' : b ≤ 255) (hc : 0 ≤ c) (hc' : c ≤ 1) (w : World) :
    Calls Try.prog 25 #[.int .i64 d, .int .i64 b, .int .i64 c] w fun e w' => e = .returned (.bool (decide (d ≤ b))) ∧ w' = w := by
  go_enter Try.func25, Try.ntmps25
  go_wp2
  go_ret
  exact ⟨rfl, rfl⟩

theorem c38 (d b c : Int) (hd : 0 ≤ d) (hd' : d ≤ 255) (hb : 0 ≤ b) (hb' : b ≤ 255) (hc : 0 ≤ c) (hc' : c ≤ 1) (w : World) :
    Calls Try.prog 26 #[.int .i64 d, .int .i64 b, .int .i64 c] w fun e w' => e = .returned (.int .i64 (b - d - 1 + c)) ∧ w' = w := by
  go_enter Try.func26, Try.ntmps26
  go_wp2
  go_ret
  exact ⟨rfl, rfl⟩

theorem c39 (d b c : Int) (hd : 0 ≤ d) (hd' : d ≤ 255) (hb : 0 ≤ b) (hb' : b ≤ 255) (hc : 0 ≤ c) (hc' : c ≤ 1) (w : World) :
    Calls Try.prog 27 #[.int .i64 d, .int .i64 b, .int .i64 c] w fun e w' => e = .returned (.bool (decide (d < b + c))) ∧ w' = w := by
  go_enter Try.func27, Try.ntmps27
  go_wp2
  go_ret
  exact ⟨rfl, rfl⟩

theorem c40 (d b c : Int) (hd : 0 ≤ d) (hd' : d ≤ 255) (hb : 0 ≤ b) (hb' : b ≤ 255) (hc : 0 ≤ c) (hc' : c ≤ 1) (w : World) :
    Calls Try.prog 28 #[.int .i64 d, .int .i64 b, .int .i64 c] w fun e w' => e = .returned (.int .i64 (d - b)) ∧ w' = w := by
  go_enter Try.func28, Try.ntmps28
  go_wp2
  go_ret
  exact ⟨rfl, rfl⟩

theorem c41 (d b c : Int) (hd : 0 ≤ d) (hd' : d ≤ 255) (hb : 0 ≤ b) (hb' : b ≤ 255) (hc : 0 ≤ c) (hc' : c ≤ 1) (w : World) :
    Calls Try.prog 29 #[.int .i64 d, .int .i64 b, .int .i64 c] w fun e w' => e = .returned (.bool (decide (b ≤ d))) ∧ w' = w := by
  go_enter Try.func29, Try.ntmps29
  go_wp2
  go_ret
  exact ⟨rfl, rfl⟩

theorem c42 (d b c : Int) (hd : 0 ≤ d) (hd' : d ≤ 255) (hb : 0 ≤ b) (hb' : b ≤ 255) (hc : 0 ≤ c) (hc' : c ≤ 1) (w : World) :
    Calls Try.prog 30 #[.int .i64 d, .int .i64 b, .int .i64 c] w fun e w' => e = .returned (.int .i64 (d - b - 1 + c)) ∧ w' = w := by
  go_enter Try.func30, Try.ntmps30
  go_wp2
  go_ret
  exact ⟨rfl, rfl⟩

theorem c43 (d b c : Int) (hd : 0 ≤ d) (hd' : d ≤ 255) (hb : 0 ≤ b) (hb' : b ≤ 255) (hc : 0 ≤ c) (hc' : c ≤ 1) (w : World) :
    Calls Try.prog 31 #[.int .i64 d, .int .i64 b, .int .i64 c] w fun e w' => e = .returned (.bool (decide (b < d + c))) ∧ w' = w := by
  go_enter Try.func31, Try.ntmps31
  go_wp2
  go_ret
  exact ⟨rfl, rfl⟩

theorem c44 (d b c : Int) (hd : 0 ≤ d) (hd' : d ≤ 255) (hb : 0 ≤ b) (hb' : b ≤ 255) (hc : 0 ≤ c) (hc' : c ≤ 1) (w : World) :
    Calls Try.prog 32 #[.int .i64 d, .int .i64 b, .int .i64 c] w fun e w' => e = .returned (.int .i64 (d / 2)) ∧ w' = w := by
  go_enter Try.func32, Try.ntmps32
  go_wp2
  go_ret
  exact ⟨rfl, rfl⟩

theorem c45 (d b c : Int) (hd : 0 ≤ d) (hd' : d ≤ 255) (hb : 0 ≤ b) (hb' : b ≤ 255) (hc : 0 ≤ c) (hc' : c ≤ 1) (w : World) :
    Calls Try.prog 33 #[.int .i64 d, .int .i64 b, .int .i64 c] w fun e w' => e = .returned (.bool (bits .and .i64 d 1 == 1)) ∧ w' = w := by
  go_enter Try.func33, Try.ntmps33
  go_wp2
  go_ret
  exact ⟨rfl, rfl⟩

theorem c46 (d b c : Int) (hd : 0 ≤ d) (hd' : d ≤ 255) (hb : 0 ≤ b) (hb' : b ≤ 255) (hc : 0 ≤ c) (hc' : c ≤ 1) (w : World) :
    Calls Try.prog 34 #[.int .i64 d, .int .i64 b, .int .i64 c] w fun e w' => e = .returned (.int .i64 (bits .or .i64 (d / 2) (c * 128))) ∧ w' = w := by
  go_enter Try.func34, Try.ntmps34
  go_wp2
  go_ret
  exact ⟨rfl, rfl⟩

theorem c47 (d b c : Int) (hd : 0 ≤ d) (hd' : d ≤ 255) (hb : 0 ≤ b) (hb' : b ≤ 255) (hc : 0 ≤ c) (hc' : c ≤ 1) (w : World) :
    Calls Try.prog 35 #[.int .i64 d, .int .i64 b, .int .i64 c] w fun e w' => e = .returned (.int .i64 (d * 2)) ∧ w' = w := by
  go_enter Try.func35, Try.ntmps35
  go_wp2
  go_ret
  exact ⟨rfl, rfl⟩

theorem c48 (d b c : Int) (hd : 0 ≤ d) (hd' : d ≤ 255) (hb : 0 ≤ b) (hb' : b ≤ 255) (hc : 0 ≤ c) (hc' : c ≤ 1) (w : World) :
    Calls Try.prog 36 #[.int .i64 d, .int .i64 b, .int .i64 c] w fun e w' => e = .returned (.bool (bits .and .i64 d 128 != 0)) ∧ w' = w := by
  go_enter Try.func36, Try.ntmps36
  go_wp2
  go_ret
  exact ⟨rfl, rfl⟩

theorem c49 (d b c : Int) (hd : 0 ≤ d) (hd' : d ≤ 255) (hb : 0 ≤ b) (hb' : b ≤ 255) (hc : 0 ≤ c) (hc' : c ≤ 1) (w : World) :
    Calls Try.prog 37 #[.int .i64 d, .int .i64 b, .int .i64 c] w fun e w' => e = .returned (.int .i64 (bits .or .i64 (d * 2) c)) ∧ w' = w := by
  go_enter Try.func37, Try.ntmps37
  go_wp2
  go_ret
  exact ⟨rfl, rfl⟩

theorem rowst {P : Program} {ops : Array Oper} {rest : List Oper} {o : Oper} {a : Act} {w : World} {Q : Exit → Act → World → Prop} (hgd : o.guard = none) (ty : TypeId) (x y : Operand) (ho : o.op = .store ty x y)
    (cells : Array Value) (hx : a.eval x = .pointer (some ⟨w.heap.size, 0, none⟩)) (hy : a.eval y = .agg cells)
    (old : Array Value) (hi : (P.info? ty).map (·.size) = some cells.size)
    (hold : old.size = cells.size) (h1 : cells.all (·.oneCell') = true)
    (h : wpList P ops Q rest (a.put o.dst undef) (w.alloc (.cells cells ty))) : wpList P ops Q (o :: rest) a (w.alloc (.cells old ty)) :=
  wpList_store_row hgd ty x y ho w.heap.size cells hx hy ty old (heap_alloc_last w _) hi hold h1 (by rw [World.setRow_alloc_new]; exact h)

theorem rowst1 {P : Program} {ops : Array Oper} {rest : List Oper} {o : Oper} {a : Act} {w : World} {O : Obj} {Q : Exit → Act → World → Prop} (hgd : o.guard = none) (ty : TypeId) (x y : Operand) (ho : o.op = .store ty x y)
    (cells : Array Value) (hx : a.eval x = .pointer (some ⟨w.heap.size + 1, 0, none⟩)) (hy : a.eval y = .agg cells)
    (old : Array Value) (hi : (P.info? ty).map (·.size) = some cells.size)
    (hold : old.size = cells.size) (h1 : cells.all (·.oneCell') = true)
    (h : wpList P ops Q rest (a.put o.dst undef) ((w.alloc O).alloc (.cells cells ty))) : wpList P ops Q (o :: rest) a ((w.alloc O).alloc (.cells old ty)) :=
  rowst hgd ty x y ho cells (by rw [hx]; simp) hy old hi hold h1 h

def fv (n : Nat) : Value := .func (.func n) #[] #[]
def tab : Array Value := #[fv 15, fv 16, fv 17, fv 16, fv 18, fv 16, fv 19, fv 16, fv 20, fv 21, fv 22, fv 23, fv 24, fv 25, fv 26, fv 27, fv 28, fv 29, fv 30, fv 31, fv 32, fv 33, fv 34, fv 33, fv 35, fv 36, fv 37, fv 36]

theorem rows_any (w : World) :
    Calls Try.prog 11 #[] w fun e w' => e = .returned (.agg tab) ∧ w' = w.alloc (.cells tab 37) := by
  go_enter Try.func11, Try.ntmps11
  go_wp2_with (refine rowst rfl 37 _ _ rfl tab rfl rfl _ (by kernel_rfl) (by kernel_rfl) (by kernel_rfl) ?_)
  exact bodyPost_ret (v := .agg tab) (results_cell_row rfl _ _ w.heap.size 37 tab (0, 0) _ (by kernel_rfl) (heap_alloc_last w _) Try.underlying37 rfl (by kernel_rfl)) rfl ⟨rfl, rfl⟩
end Go.Proofs.Ytcljbfembnbeiab
