/- vesperlaw02.CodeThere, walked. -/
import Derived.Test.YtbllnjifmcodbaaDoorThere
import Derived.Test.YtbllnjifmcodbaaDoorLinesW
import Derived.OwnWalk
import Derived.Laws.AppendOwnNone
namespace Go.Proofs.YtbllnjifmcodbaaDoor
open Go.RowKit
set_option linter.unusedVariables false
set_option maxHeartbeats 2000000
set_option maxRecDepth 20000

theorem there_big1 (S : ByteArray) (A : Int) (a : Option Addr) (len cap : Nat) (w : World) (h : 2147483647 < len) :
    Calls Tryd.prog 6 #[.agg #[.string S, .int .i64 A], .slice a len cap] w fun e w' => e = .returned (.bool true) ∧ Below w.heap.size w w' := by
  go_enter Tryd.func6, Tryd.ntmps6
  go_wp2
  all_goals go_ret
  all_goals exact ⟨rfl, (Below.refl _ _).alloc (Nat.le_refl _) _⟩
theorem there_big2 (S : ByteArray) (A : Int) (a : Option Addr) (len cap : Nat) (w : World) (h : ¬ 2147483647 < len) (h' : 2147483647 < S.size) (hs : S.size ≤ maxLen) :
    Calls Tryd.prog 6 #[.agg #[.string S, .int .i64 A], .slice a len cap] w fun e w' => e = .returned (.bool true) ∧ Below w.heap.size w w' := by
  unfold maxLen at hs
  go_enter Tryd.func6, Tryd.ntmps6
  go_wp2
  all_goals go_ret
  all_goals exact ⟨rfl, (Below.refl _ _).alloc (Nat.le_refl _) _⟩
theorem there_big3 (S : ByteArray) (A : Int) (a : Option Addr) (len cap : Nat) (w : World) (h : ¬ 2147483647 < len) (h' : ¬ 2147483647 < S.size) (h'' : 2147483647 < len + S.size) :
    Calls Tryd.prog 6 #[.agg #[.string S, .int .i64 A], .slice a len cap] w fun e w' => e = .returned (.bool true) ∧ Below w.heap.size w w' := by
  go_enter Tryd.func6, Tryd.ntmps6
  go_wp2
  all_goals go_ret
  all_goals exact ⟨rfl, (Below.refl _ _).alloc (Nat.le_refl _) _⟩

theorem tabs_below {w v : World} (T : Tabs w) (h : Below w.heap.size w v) : Tabs v := T.below h

theorem there_none (S : ByteArray) (A : Int) (a : Option Addr) (len cap : Nat) (w : World) (T : Tabs w) (h : len + S.size ≤ 2147483647) (ho : Hid (opOf S = none)) :
    Calls Tryd.prog 6 #[.agg #[.string S, .int .i64 A], .slice a len cap] w fun e w' => e = .returned (.bool true) ∧ Below w.heap.size w w' := by
  have T0 := tabs_alloc T (.cells #[.string S, .int .i64 A] 33)
  go_enter Tryd.func6, Tryd.ntmps6
  go_wp2_with (first
    | (go_at_call 16; refine (awake_any _ T0).mono ?_; rintro e v1 ⟨rfl, hb1⟩; have T1 := T0.below hb1; have G := holds_new hb1; have a0 : v1.cell? ⟨w.heap.size, 0, none⟩ = some (.string S) := G 0 (by simp); have a1 : v1.cell? ⟨w.heap.size, 1, none⟩ = some (.int .i64 A) := G 1 (by simp); replace hb1 := below_own hb1)
    | (go_at_call 12; refine (enc_name S A ho _ T1).mono ?_; rintro e v2 ⟨rfl, hb2⟩; have T2 := T1.below hb2; replace G := G.mono hb2; clear a0 a1; have a0 : v2.cell? ⟨w.heap.size, 0, none⟩ = some (.string S) := G 0 (by simp); have a1 : v2.cell? ⟨w.heap.size, 1, none⟩ = some (.int .i64 A) := G 1 (by simp); replace hb2 := hb1.trans (hb2.mono hb1.size))
    | (go_at_call 17; refine (print_name S A ho _ T2).mono ?_; rintro e v3 ⟨rfl, hb3⟩; have T3 := T2.below hb3; replace G := G.mono hb3; clear a0 a1; have a0 : v3.cell? ⟨w.heap.size, 0, none⟩ = some (.string S) := G 0 (by simp); replace hb3 := hb2.trans (hb3.mono hb2.size))
    | (go_at_call 10; refine (find_none S ho _ T3).mono ?_; unfold info0; rintro e v4 ⟨rfl, hb4⟩; replace hb4 := hb3.trans (hb4.mono hb3.size)))
  go_ret
  exact ⟨rfl, hb4.alloc hb4.size _⟩

theorem there_bad (S : ByteArray) (A : Int) (a : Option Addr) (len cap : Nat) (w : World) (T : Tabs w) (h : len + S.size ≤ 2147483647) (n : Nat) (ho : Hid (opOf S = some n)) (hm : Hid (¬ may n A)) (F L c : Nat) (hX : Hid (nm n = S)) (hF : Hid (fm n = F)) (hL : Hid (lay (fm n * 3) = L)) (hc : Hid (cyc n = c)) :
    Calls Tryd.prog 6 #[.agg #[.string S, .int .i64 A], .slice a len cap] w fun e w' => e = .returned (.bool true) ∧ Below w.heap.size w w' := by
  have T0 := tabs_alloc T (.cells #[.string S, .int .i64 A] 33)
  go_enter Tryd.func6, Tryd.ntmps6
  go_wp2_with (first
    | (go_at_call 16; refine (awake_any _ T0).mono ?_; rintro e v1 ⟨rfl, hb1⟩; have T1 := T0.below hb1; have G := holds_new hb1; have a0 : v1.cell? ⟨w.heap.size, 0, none⟩ = some (.string S) := G 0 (by simp); have a1 : v1.cell? ⟨w.heap.size, 1, none⟩ = some (.int .i64 A) := G 1 (by simp); replace hb1 := below_own hb1)
    | (go_at_call 12; refine (enc_bad S A n ho.out hm.out _ T1).mono ?_; rintro e v2 ⟨rfl, hb2⟩; have T2 := T1.below hb2; replace G := G.mono hb2; clear a0 a1; have a0 : v2.cell? ⟨w.heap.size, 0, none⟩ = some (.string S) := G 0 (by simp); have a1 : v2.cell? ⟨w.heap.size, 1, none⟩ = some (.int .i64 A) := G 1 (by simp); replace hb2 := hb1.trans (hb2.mono hb1.size))
    | (go_at_call 17; refine (print_bad S A n ho hm _ T2).mono ?_; rintro e v3 ⟨rfl, hb3⟩; have T3 := T2.below hb3; replace G := G.mono hb3; clear a0 a1; have a0 : v3.cell? ⟨w.heap.size, 0, none⟩ = some (.string S) := G 0 (by simp); replace hb3 := hb2.trans (hb3.mono hb2.size))
    | (go_at_call 10; refine (find_some S n ho S F L c hX hF hL hc _ T3).mono ?_; rintro e v4 ⟨rfl, hb4⟩; replace hb4 := hb3.trans (hb4.mono hb3.size)))
  go_ret
  exact ⟨rfl, hb4.alloc hb4.size _⟩
end Go.Proofs.YtbllnjifmcodbaaDoor
