/- GameTouches: what an order may touch. -/
import Derived.Test.YtigiebfdaiccdaaH0
namespace Go.Proofs.Ytigiebfdaiccdaa
open Go Go.RowKit Go.Shelf
set_option linter.unusedVariables false
set_option maxHeartbeats 1000000
set_option maxRecDepth 20000

theorem tch_9 (w : World) (x y n b a k : Nat) (hx : (x : Int) < 256) (hk : (k : Int) < 16) (R : Bool) (q : ((k : Int) == (x : Int)) = R) (q2 : decide (k = x) = R) :
    Calls Try.prog 21 #[.agg #[.int .u8 (9 : Int), .int .u8 (x : Int), .int .u8 (y : Int), .int .u8 (n : Int), .int .u8 (b : Int), .int .u16 (a : Int)], .int .i64 (k : Int)] w fun e w' => e = .returned (.bool R) ∧ Below w.heap.size w w' := by
  have hB : Below w.heap.size w (w.alloc (.cells #[.int .u8 (9 : Int), .int .u8 (x : Int), .int .u8 (y : Int), .int .u8 (n : Int), .int .u8 (b : Int), .int .u16 (a : Int)] 45)) := below1 w _
  go_enter Try.func21, Try.ntmps21
  go_wp2
  go_ret
  exact ⟨rfl, hB⟩

theorem tch_10 (w : World) (x y n b a k : Nat) (hx : (x : Int) < 256) (hk : (k : Int) < 16) (R : Bool) (q : ((k : Int) == (x : Int)) = R) (q2 : decide (k = x) = R) :
    Calls Try.prog 21 #[.agg #[.int .u8 (10 : Int), .int .u8 (x : Int), .int .u8 (y : Int), .int .u8 (n : Int), .int .u8 (b : Int), .int .u16 (a : Int)], .int .i64 (k : Int)] w fun e w' => e = .returned (.bool R) ∧ Below w.heap.size w w' := by
  have hB : Below w.heap.size w (w.alloc (.cells #[.int .u8 (10 : Int), .int .u8 (x : Int), .int .u8 (y : Int), .int .u8 (n : Int), .int .u8 (b : Int), .int .u16 (a : Int)] 45)) := below1 w _
  go_enter Try.func21, Try.ntmps21
  go_wp2
  go_ret
  exact ⟨rfl, hB⟩

theorem tch_11 (w : World) (x y n b a k : Nat) (hx : (x : Int) < 256) (hk : (k : Int) < 16) (R : Bool) (q : ((k : Int) == (x : Int)) = R) (q2 : decide (k = x) = R) :
    Calls Try.prog 21 #[.agg #[.int .u8 (11 : Int), .int .u8 (x : Int), .int .u8 (y : Int), .int .u8 (n : Int), .int .u8 (b : Int), .int .u16 (a : Int)], .int .i64 (k : Int)] w fun e w' => e = .returned (.bool R) ∧ Below w.heap.size w w' := by
  have hB : Below w.heap.size w (w.alloc (.cells #[.int .u8 (11 : Int), .int .u8 (x : Int), .int .u8 (y : Int), .int .u8 (n : Int), .int .u8 (b : Int), .int .u16 (a : Int)] 45)) := below1 w _
  go_enter Try.func21, Try.ntmps21
  go_wp2
  go_ret
  exact ⟨rfl, hB⟩

theorem tch_19 (w : World) (x y n b a k : Nat) (hx : (x : Int) < 256) (hk : (k : Int) < 16) (R : Bool) (q : ((k : Int) == (x : Int)) = R) (q2 : decide (k = x) = R) :
    Calls Try.prog 21 #[.agg #[.int .u8 (19 : Int), .int .u8 (x : Int), .int .u8 (y : Int), .int .u8 (n : Int), .int .u8 (b : Int), .int .u16 (a : Int)], .int .i64 (k : Int)] w fun e w' => e = .returned (.bool R) ∧ Below w.heap.size w w' := by
  have hB : Below w.heap.size w (w.alloc (.cells #[.int .u8 (19 : Int), .int .u8 (x : Int), .int .u8 (y : Int), .int .u8 (n : Int), .int .u8 (b : Int), .int .u16 (a : Int)] 45)) := below1 w _
  go_enter Try.func21, Try.ntmps21
  go_wp2
  go_ret
  exact ⟨rfl, hB⟩

theorem tch_23 (w : World) (x y n b a k : Nat) (hx : (x : Int) < 256) (hk : (k : Int) < 16) (R : Bool) (q : ((k : Int) == (x : Int)) = R) (q2 : decide (k = x) = R) :
    Calls Try.prog 21 #[.agg #[.int .u8 (23 : Int), .int .u8 (x : Int), .int .u8 (y : Int), .int .u8 (n : Int), .int .u8 (b : Int), .int .u16 (a : Int)], .int .i64 (k : Int)] w fun e w' => e = .returned (.bool R) ∧ Below w.heap.size w w' := by
  have hB : Below w.heap.size w (w.alloc (.cells #[.int .u8 (23 : Int), .int .u8 (x : Int), .int .u8 (y : Int), .int .u8 (n : Int), .int .u8 (b : Int), .int .u16 (a : Int)] 45)) := below1 w _
  go_enter Try.func21, Try.ntmps21
  go_wp2
  go_ret
  exact ⟨rfl, hB⟩

theorem tch_24 (w : World) (x y n b a k : Nat) (hx : (x : Int) < 256) (hk : (k : Int) < 16) (R : Bool) (q : ((k : Int) == (x : Int)) = R) (q2 : decide (k = x) = R) :
    Calls Try.prog 21 #[.agg #[.int .u8 (24 : Int), .int .u8 (x : Int), .int .u8 (y : Int), .int .u8 (n : Int), .int .u8 (b : Int), .int .u16 (a : Int)], .int .i64 (k : Int)] w fun e w' => e = .returned (.bool R) ∧ Below w.heap.size w w' := by
  have hB : Below w.heap.size w (w.alloc (.cells #[.int .u8 (24 : Int), .int .u8 (x : Int), .int .u8 (y : Int), .int .u8 (n : Int), .int .u8 (b : Int), .int .u16 (a : Int)] 45)) := below1 w _
  go_enter Try.func21, Try.ntmps21
  go_wp2
  go_ret
  exact ⟨rfl, hB⟩

theorem tch_12a (w : World) (x y n b a k : Nat) (hx : (x : Int) < 256) (hk : (k : Int) < 16) (q : ((k : Int) == (x : Int)) = true) (q2 : decide (k = x) = true) :
    Calls Try.prog 21 #[.agg #[.int .u8 (12 : Int), .int .u8 (x : Int), .int .u8 (y : Int), .int .u8 (n : Int), .int .u8 (b : Int), .int .u16 (a : Int)], .int .i64 (k : Int)] w fun e w' => e = .returned (.bool true) ∧ Below w.heap.size w w' := by
  have hB : Below w.heap.size w (w.alloc (.cells #[.int .u8 (12 : Int), .int .u8 (x : Int), .int .u8 (y : Int), .int .u8 (n : Int), .int .u8 (b : Int), .int .u16 (a : Int)] 45)) := below1 w _
  go_enter Try.func21, Try.ntmps21
  go_wp2
  go_ret
  exact ⟨rfl, hB⟩

theorem tch_12b (w : World) (x y n b a k : Nat) (hx : (x : Int) < 256) (hk : (k : Int) < 16) (R : Bool) (q : ((k : Int) == (x : Int)) = false) (q2 : decide (k = x) = false) (q3 : ((k : Int) == 15) = R) (q4 : decide (k = 15) = R) :
    Calls Try.prog 21 #[.agg #[.int .u8 (12 : Int), .int .u8 (x : Int), .int .u8 (y : Int), .int .u8 (n : Int), .int .u8 (b : Int), .int .u16 (a : Int)], .int .i64 (k : Int)] w fun e w' => e = .returned (.bool R) ∧ Below w.heap.size w w' := by
  have hB : Below w.heap.size w (w.alloc (.cells #[.int .u8 (12 : Int), .int .u8 (x : Int), .int .u8 (y : Int), .int .u8 (n : Int), .int .u8 (b : Int), .int .u16 (a : Int)] 45)) := below1 w _
  go_enter Try.func21, Try.ntmps21
  go_wp2
  go_ret
  exact ⟨rfl, hB⟩

theorem tch_13a (w : World) (x y n b a k : Nat) (hx : (x : Int) < 256) (hk : (k : Int) < 16) (q : ((k : Int) == (x : Int)) = true) (q2 : decide (k = x) = true) :
    Calls Try.prog 21 #[.agg #[.int .u8 (13 : Int), .int .u8 (x : Int), .int .u8 (y : Int), .int .u8 (n : Int), .int .u8 (b : Int), .int .u16 (a : Int)], .int .i64 (k : Int)] w fun e w' => e = .returned (.bool true) ∧ Below w.heap.size w w' := by
  have hB : Below w.heap.size w (w.alloc (.cells #[.int .u8 (13 : Int), .int .u8 (x : Int), .int .u8 (y : Int), .int .u8 (n : Int), .int .u8 (b : Int), .int .u16 (a : Int)] 45)) := below1 w _
  go_enter Try.func21, Try.ntmps21
  go_wp2
  go_ret
  exact ⟨rfl, hB⟩

theorem tch_13b (w : World) (x y n b a k : Nat) (hx : (x : Int) < 256) (hk : (k : Int) < 16) (R : Bool) (q : ((k : Int) == (x : Int)) = false) (q2 : decide (k = x) = false) (q3 : ((k : Int) == 15) = R) (q4 : decide (k = 15) = R) :
    Calls Try.prog 21 #[.agg #[.int .u8 (13 : Int), .int .u8 (x : Int), .int .u8 (y : Int), .int .u8 (n : Int), .int .u8 (b : Int), .int .u16 (a : Int)], .int .i64 (k : Int)] w fun e w' => e = .returned (.bool R) ∧ Below w.heap.size w w' := by
  have hB : Below w.heap.size w (w.alloc (.cells #[.int .u8 (13 : Int), .int .u8 (x : Int), .int .u8 (y : Int), .int .u8 (n : Int), .int .u8 (b : Int), .int .u16 (a : Int)] 45)) := below1 w _
  go_enter Try.func21, Try.ntmps21
  go_wp2
  go_ret
  exact ⟨rfl, hB⟩

theorem tch_14a (w : World) (x y n b a k : Nat) (hx : (x : Int) < 256) (hk : (k : Int) < 16) (q : ((k : Int) == (x : Int)) = true) (q2 : decide (k = x) = true) :
    Calls Try.prog 21 #[.agg #[.int .u8 (14 : Int), .int .u8 (x : Int), .int .u8 (y : Int), .int .u8 (n : Int), .int .u8 (b : Int), .int .u16 (a : Int)], .int .i64 (k : Int)] w fun e w' => e = .returned (.bool true) ∧ Below w.heap.size w w' := by
  have hB : Below w.heap.size w (w.alloc (.cells #[.int .u8 (14 : Int), .int .u8 (x : Int), .int .u8 (y : Int), .int .u8 (n : Int), .int .u8 (b : Int), .int .u16 (a : Int)] 45)) := below1 w _
  go_enter Try.func21, Try.ntmps21
  go_wp2
  go_ret
  exact ⟨rfl, hB⟩

theorem tch_14b (w : World) (x y n b a k : Nat) (hx : (x : Int) < 256) (hk : (k : Int) < 16) (R : Bool) (q : ((k : Int) == (x : Int)) = false) (q2 : decide (k = x) = false) (q3 : ((k : Int) == 15) = R) (q4 : decide (k = 15) = R) :
    Calls Try.prog 21 #[.agg #[.int .u8 (14 : Int), .int .u8 (x : Int), .int .u8 (y : Int), .int .u8 (n : Int), .int .u8 (b : Int), .int .u16 (a : Int)], .int .i64 (k : Int)] w fun e w' => e = .returned (.bool R) ∧ Below w.heap.size w w' := by
  have hB : Below w.heap.size w (w.alloc (.cells #[.int .u8 (14 : Int), .int .u8 (x : Int), .int .u8 (y : Int), .int .u8 (n : Int), .int .u8 (b : Int), .int .u16 (a : Int)] 45)) := below1 w _
  go_enter Try.func21, Try.ntmps21
  go_wp2
  go_ret
  exact ⟨rfl, hB⟩

theorem tch_15a (w : World) (x y n b a k : Nat) (hx : (x : Int) < 256) (hk : (k : Int) < 16) (q : ((k : Int) == (x : Int)) = true) (q2 : decide (k = x) = true) :
    Calls Try.prog 21 #[.agg #[.int .u8 (15 : Int), .int .u8 (x : Int), .int .u8 (y : Int), .int .u8 (n : Int), .int .u8 (b : Int), .int .u16 (a : Int)], .int .i64 (k : Int)] w fun e w' => e = .returned (.bool true) ∧ Below w.heap.size w w' := by
  have hB : Below w.heap.size w (w.alloc (.cells #[.int .u8 (15 : Int), .int .u8 (x : Int), .int .u8 (y : Int), .int .u8 (n : Int), .int .u8 (b : Int), .int .u16 (a : Int)] 45)) := below1 w _
  go_enter Try.func21, Try.ntmps21
  go_wp2
  go_ret
  exact ⟨rfl, hB⟩

theorem tch_15b (w : World) (x y n b a k : Nat) (hx : (x : Int) < 256) (hk : (k : Int) < 16) (R : Bool) (q : ((k : Int) == (x : Int)) = false) (q2 : decide (k = x) = false) (q3 : ((k : Int) == 15) = R) (q4 : decide (k = 15) = R) :
    Calls Try.prog 21 #[.agg #[.int .u8 (15 : Int), .int .u8 (x : Int), .int .u8 (y : Int), .int .u8 (n : Int), .int .u8 (b : Int), .int .u16 (a : Int)], .int .i64 (k : Int)] w fun e w' => e = .returned (.bool R) ∧ Below w.heap.size w w' := by
  have hB : Below w.heap.size w (w.alloc (.cells #[.int .u8 (15 : Int), .int .u8 (x : Int), .int .u8 (y : Int), .int .u8 (n : Int), .int .u8 (b : Int), .int .u16 (a : Int)] 45)) := below1 w _
  go_enter Try.func21, Try.ntmps21
  go_wp2
  go_ret
  exact ⟨rfl, hB⟩

theorem tch_20 (w : World) (x y n b a k : Nat) (hx : (x : Int) < 256) (hk : (k : Int) < 16) (R : Bool) (q3 : ((k : Int) == 15) = R) (q4 : decide (k = 15) = R) :
    Calls Try.prog 21 #[.agg #[.int .u8 (20 : Int), .int .u8 (x : Int), .int .u8 (y : Int), .int .u8 (n : Int), .int .u8 (b : Int), .int .u16 (a : Int)], .int .i64 (k : Int)] w fun e w' => e = .returned (.bool R) ∧ Below w.heap.size w w' := by
  have hB : Below w.heap.size w (w.alloc (.cells #[.int .u8 (20 : Int), .int .u8 (x : Int), .int .u8 (y : Int), .int .u8 (n : Int), .int .u8 (b : Int), .int .u16 (a : Int)] 45)) := below1 w _
  go_enter Try.func21, Try.ntmps21
  go_wp2
  go_ret
  exact ⟨rfl, hB⟩

theorem tch_31 (w : World) (x y n b a k : Nat) (hx : (x : Int) < 256) (hk : (k : Int) < 16) (R : Bool) (q3 : decide ((k : Int) ≤ (x : Int)) = R) (q4 : decide (k ≤ x) = R) :
    Calls Try.prog 21 #[.agg #[.int .u8 (31 : Int), .int .u8 (x : Int), .int .u8 (y : Int), .int .u8 (n : Int), .int .u8 (b : Int), .int .u16 (a : Int)], .int .i64 (k : Int)] w fun e w' => e = .returned (.bool R) ∧ Below w.heap.size w w' := by
  have hB : Below w.heap.size w (w.alloc (.cells #[.int .u8 (31 : Int), .int .u8 (x : Int), .int .u8 (y : Int), .int .u8 (n : Int), .int .u8 (b : Int), .int .u16 (a : Int)] 45)) := below1 w _
  go_enter Try.func21, Try.ntmps21
  go_wp2
  go_ret
  exact ⟨rfl, hB⟩

theorem tch_no (w : World) (op x y n b a k : Nat) (hx : (x : Int) < 256) (hk : (k : Int) < 16) (n9 : ((op : Int) == 9) = false) (n10 : ((op : Int) == 10) = false) (n11 : ((op : Int) == 11) = false) (n19 : ((op : Int) == 19) = false) (n23 : ((op : Int) == 23) = false) (n24 : ((op : Int) == 24) = false) (n12 : ((op : Int) == 12) = false) (n13 : ((op : Int) == 13) = false) (n14 : ((op : Int) == 14) = false) (n15 : ((op : Int) == 15) = false) (n20 : ((op : Int) == 20) = false) (n31 : ((op : Int) == 31) = false) :
    Calls Try.prog 21 #[.agg #[.int .u8 (op : Int), .int .u8 (x : Int), .int .u8 (y : Int), .int .u8 (n : Int), .int .u8 (b : Int), .int .u16 (a : Int)], .int .i64 (k : Int)] w fun e w' => e = .returned (.bool false) ∧ Below w.heap.size w w' := by
  have hB : Below w.heap.size w (w.alloc (.cells #[.int .u8 (op : Int), .int .u8 (x : Int), .int .u8 (y : Int), .int .u8 (n : Int), .int .u8 (b : Int), .int .u16 (a : Int)] 45)) := below1 w _
  go_enter Try.func21, Try.ntmps21
  go_wp2
  go_ret
  exact ⟨rfl, hB⟩

theorem touched_any (w : World) (o : Od) (ho : OdR o) (k : Nat) (hk : k < 16) :
    Calls Try.prog 21 #[.agg (o6 o), .int .i64 (k : Int)] w fun e w' => e = .returned (.bool (tchG o k)) ∧ Below w.heap.size w w' := by
  have hx := ho.x
  obtain ⟨op, x, y, n, b, a⟩ := o
  replace hx : x < 256 := hx
  unfold o6
  by_cases h9 : op = 9
  · subst h9
    rw [show tchG ⟨9, x, y, n, b, a⟩ k = (k == x) from rfl]
    exact tch_9 w x y n b a k (by omega) (by omega) _ (eqZ rfl).1 (eqZ rfl).2.1
  by_cases h10 : op = 10
  · subst h10
    rw [show tchG ⟨10, x, y, n, b, a⟩ k = (k == x) from rfl]
    exact tch_10 w x y n b a k (by omega) (by omega) _ (eqZ rfl).1 (eqZ rfl).2.1
  by_cases h11 : op = 11
  · subst h11
    rw [show tchG ⟨11, x, y, n, b, a⟩ k = (k == x) from rfl]
    exact tch_11 w x y n b a k (by omega) (by omega) _ (eqZ rfl).1 (eqZ rfl).2.1
  by_cases h19 : op = 19
  · subst h19
    rw [show tchG ⟨19, x, y, n, b, a⟩ k = (k == x) from rfl]
    exact tch_19 w x y n b a k (by omega) (by omega) _ (eqZ rfl).1 (eqZ rfl).2.1
  by_cases h23 : op = 23
  · subst h23
    rw [show tchG ⟨23, x, y, n, b, a⟩ k = (k == x) from rfl]
    exact tch_23 w x y n b a k (by omega) (by omega) _ (eqZ rfl).1 (eqZ rfl).2.1
  by_cases h24 : op = 24
  · subst h24
    rw [show tchG ⟨24, x, y, n, b, a⟩ k = (k == x) from rfl]
    exact tch_24 w x y n b a k (by omega) (by omega) _ (eqZ rfl).1 (eqZ rfl).2.1
  by_cases h12 : op = 12
  · subst h12
    rw [show tchG ⟨12, x, y, n, b, a⟩ k = (k == x || k == 15) from rfl]
    by_cases hkx : k = x
    · rw [show (k == x || k == 15) = true by simp [hkx]]
      exact tch_12a w x y n b a k (by omega) (by omega) (by simp; omega) (by simp; omega)
    · rw [show (k == x || k == 15) = (k == 15) by simp [hkx]]
      exact tch_12b w x y n b a k (by omega) (by omega) _ (by simp; omega) (by simp; omega) (eqZ (y := 15) rfl).1 (eqZ rfl).2.1
  by_cases h13 : op = 13
  · subst h13
    rw [show tchG ⟨13, x, y, n, b, a⟩ k = (k == x || k == 15) from rfl]
    by_cases hkx : k = x
    · rw [show (k == x || k == 15) = true by simp [hkx]]
      exact tch_13a w x y n b a k (by omega) (by omega) (by simp; omega) (by simp; omega)
    · rw [show (k == x || k == 15) = (k == 15) by simp [hkx]]
      exact tch_13b w x y n b a k (by omega) (by omega) _ (by simp; omega) (by simp; omega) (eqZ (y := 15) rfl).1 (eqZ rfl).2.1
  by_cases h14 : op = 14
  · subst h14
    rw [show tchG ⟨14, x, y, n, b, a⟩ k = (k == x || k == 15) from rfl]
    by_cases hkx : k = x
    · rw [show (k == x || k == 15) = true by simp [hkx]]
      exact tch_14a w x y n b a k (by omega) (by omega) (by simp; omega) (by simp; omega)
    · rw [show (k == x || k == 15) = (k == 15) by simp [hkx]]
      exact tch_14b w x y n b a k (by omega) (by omega) _ (by simp; omega) (by simp; omega) (eqZ (y := 15) rfl).1 (eqZ rfl).2.1
  by_cases h15 : op = 15
  · subst h15
    rw [show tchG ⟨15, x, y, n, b, a⟩ k = (k == x || k == 15) from rfl]
    by_cases hkx : k = x
    · rw [show (k == x || k == 15) = true by simp [hkx]]
      exact tch_15a w x y n b a k (by omega) (by omega) (by simp; omega) (by simp; omega)
    · rw [show (k == x || k == 15) = (k == 15) by simp [hkx]]
      exact tch_15b w x y n b a k (by omega) (by omega) _ (by simp; omega) (by simp; omega) (eqZ (y := 15) rfl).1 (eqZ rfl).2.1
  by_cases h20 : op = 20
  · subst h20
    rw [show tchG ⟨20, x, y, n, b, a⟩ k = (k == 15) from rfl]
    exact tch_20 w x y n b a k (by omega) (by omega) _ (eqZ (y := 15) rfl).1 (eqZ rfl).2.1
  by_cases h31 : op = 31
  · subst h31
    rw [show tchG ⟨31, x, y, n, b, a⟩ k = decide (k ≤ x) from rfl]
    exact tch_31 w x y n b a k (by omega) (by omega) _ (by simp) rfl
  rw [show tchG ⟨op, x, y, n, b, a⟩ k = false by simp [tchG, h9, h10, h11, h19, h23, h24, h12, h13, h14, h15, h20, h31]]
  exact tch_no w op x y n b a k (by omega) (by omega) (by simp; omega) (by simp; omega) (by simp; omega) (by simp; omega) (by simp; omega) (by simp; omega) (by simp; omega) (by simp; omega) (by simp; omega) (by simp; omega) (by simp; omega) (by simp; omega)

theorem lie_29a (w : World) (C : Array Value) (hC : C.size = 23) (I : Nat) (hI : C[16]? = some (.int .u16 (I : Int))) (x y n b a A : Nat) (h1 : (x : Int) < 256) (h2 : (I : Int) < 65536) (h3 : (A : Int) < 100000) (p1 : decide ((I : Int) ≤ (A : Int)) = false) (p2 : decide (I ≤ A) = false) :
    Calls Try.prog 22 #[.agg C, .agg #[.int .u8 (29 : Int), .int .u8 (x : Int), .int .u8 (y : Int), .int .u8 (n : Int), .int .u8 (b : Int), .int .u16 (a : Int)], .int .i64 (A : Int)] w fun e w' => e = .returned (.bool false) ∧ Below w.heap.size w w' := by
  have gC : Hid (C.size = 23) := hC
  have gI : Hid (C[16]? = some (.int .u16 (I : Int))) := hI
  clear hC hI
  go_enter Try.func22, Try.ntmps22
  go_wp2_with ((with_reducible refine gen_world ((w.alloc (.cells C 29)).alloc (.cells #[.int .u8 (29 : Int), .int .u8 (x : Int), .int .u8 (y : Int), .int .u8 (n : Int), .int .u8 (b : Int), .int .u16 (a : Int)] 45)) (Fm w [(w.heap.size, C, 29), (w.heap.size + 1, #[.int .u8 (29 : Int), .int .u8 (x : Int), .int .u8 (y : Int), .int .u8 (n : Int), .int .u8 (b : Int), .int .u16 (a : Int)], 45)]) ?_ ?_); (exact Fm.two w _ _ _ _); intro z K; have c16 := (K.out.bx 0 _ _ _ rfl).c 16 _ gI.out; have d0 := (K.out.bx 1 _ _ _ rfl).c 0 _ rfl; have d1 := (K.out.bx 1 _ _ _ rfl).c 1 _ rfl)
  go_ret
  exact ⟨rfl, K.out.low⟩

theorem lie_29b (w : World) (C : Array Value) (hC : C.size = 23) (I : Nat) (hI : C[16]? = some (.int .u16 (I : Int))) (x y n b a A : Nat) (h1 : (x : Int) < 256) (h2 : (I : Int) < 65536) (h3 : (A : Int) < 100000) (p1 : decide ((I : Int) ≤ (A : Int)) = true) (p2 : decide (I ≤ A) = true) (S : Nat) (hS : (I : Int) + 2 = (S : Int)) (hS2 : (S : Int) < 131072) (R : Bool) (q1 : decide ((A : Int) ≤ (S : Int)) = R) (q2 : decide (A ≤ S) = R) :
    Calls Try.prog 22 #[.agg C, .agg #[.int .u8 (29 : Int), .int .u8 (x : Int), .int .u8 (y : Int), .int .u8 (n : Int), .int .u8 (b : Int), .int .u16 (a : Int)], .int .i64 (A : Int)] w fun e w' => e = .returned (.bool R) ∧ Below w.heap.size w w' := by
  have gC : Hid (C.size = 23) := hC
  have gI : Hid (C[16]? = some (.int .u16 (I : Int))) := hI
  clear hC hI
  go_enter Try.func22, Try.ntmps22
  go_wp2_with ((with_reducible refine gen_world ((w.alloc (.cells C 29)).alloc (.cells #[.int .u8 (29 : Int), .int .u8 (x : Int), .int .u8 (y : Int), .int .u8 (n : Int), .int .u8 (b : Int), .int .u16 (a : Int)] 45)) (Fm w [(w.heap.size, C, 29), (w.heap.size + 1, #[.int .u8 (29 : Int), .int .u8 (x : Int), .int .u8 (y : Int), .int .u8 (n : Int), .int .u8 (b : Int), .int .u16 (a : Int)], 45)]) ?_ ?_); (exact Fm.two w _ _ _ _); intro z K; have c16 := (K.out.bx 0 _ _ _ rfl).c 16 _ gI.out; have d0 := (K.out.bx 1 _ _ _ rfl).c 0 _ rfl; have d1 := (K.out.bx 1 _ _ _ rfl).c 1 _ rfl)
  go_ret
  exact ⟨rfl, K.out.low⟩

theorem lie_30a (w : World) (C : Array Value) (hC : C.size = 23) (I : Nat) (hI : C[16]? = some (.int .u16 (I : Int))) (x y n b a A : Nat) (h1 : (x : Int) < 256) (h2 : (I : Int) < 65536) (h3 : (A : Int) < 100000) (p1 : decide ((I : Int) ≤ (A : Int)) = false) (p2 : decide (I ≤ A) = false) :
    Calls Try.prog 22 #[.agg C, .agg #[.int .u8 (30 : Int), .int .u8 (x : Int), .int .u8 (y : Int), .int .u8 (n : Int), .int .u8 (b : Int), .int .u16 (a : Int)], .int .i64 (A : Int)] w fun e w' => e = .returned (.bool false) ∧ Below w.heap.size w w' := by
  have gC : Hid (C.size = 23) := hC
  have gI : Hid (C[16]? = some (.int .u16 (I : Int))) := hI
  clear hC hI
  go_enter Try.func22, Try.ntmps22
  go_wp2_with ((with_reducible refine gen_world ((w.alloc (.cells C 29)).alloc (.cells #[.int .u8 (30 : Int), .int .u8 (x : Int), .int .u8 (y : Int), .int .u8 (n : Int), .int .u8 (b : Int), .int .u16 (a : Int)] 45)) (Fm w [(w.heap.size, C, 29), (w.heap.size + 1, #[.int .u8 (30 : Int), .int .u8 (x : Int), .int .u8 (y : Int), .int .u8 (n : Int), .int .u8 (b : Int), .int .u16 (a : Int)], 45)]) ?_ ?_); (exact Fm.two w _ _ _ _); intro z K; have c16 := (K.out.bx 0 _ _ _ rfl).c 16 _ gI.out; have d0 := (K.out.bx 1 _ _ _ rfl).c 0 _ rfl; have d1 := (K.out.bx 1 _ _ _ rfl).c 1 _ rfl)
  go_ret
  exact ⟨rfl, K.out.low⟩

theorem lie_30b (w : World) (C : Array Value) (hC : C.size = 23) (I : Nat) (hI : C[16]? = some (.int .u16 (I : Int))) (x y n b a A : Nat) (h1 : (x : Int) < 256) (h2 : (I : Int) < 65536) (h3 : (A : Int) < 100000) (p1 : decide ((I : Int) ≤ (A : Int)) = true) (p2 : decide (I ≤ A) = true) (S : Nat) (hS : (I : Int) + (x : Int) = (S : Int)) (hS2 : (S : Int) < 131072) (R : Bool) (q1 : decide ((A : Int) ≤ (S : Int)) = R) (q2 : decide (A ≤ S) = R) :
    Calls Try.prog 22 #[.agg C, .agg #[.int .u8 (30 : Int), .int .u8 (x : Int), .int .u8 (y : Int), .int .u8 (n : Int), .int .u8 (b : Int), .int .u16 (a : Int)], .int .i64 (A : Int)] w fun e w' => e = .returned (.bool R) ∧ Below w.heap.size w w' := by
  have gC : Hid (C.size = 23) := hC
  have gI : Hid (C[16]? = some (.int .u16 (I : Int))) := hI
  clear hC hI
  go_enter Try.func22, Try.ntmps22
  go_wp2_with ((with_reducible refine gen_world ((w.alloc (.cells C 29)).alloc (.cells #[.int .u8 (30 : Int), .int .u8 (x : Int), .int .u8 (y : Int), .int .u8 (n : Int), .int .u8 (b : Int), .int .u16 (a : Int)] 45)) (Fm w [(w.heap.size, C, 29), (w.heap.size + 1, #[.int .u8 (30 : Int), .int .u8 (x : Int), .int .u8 (y : Int), .int .u8 (n : Int), .int .u8 (b : Int), .int .u16 (a : Int)], 45)]) ?_ ?_); (exact Fm.two w _ _ _ _); intro z K; have c16 := (K.out.bx 0 _ _ _ rfl).c 16 _ gI.out; have d0 := (K.out.bx 1 _ _ _ rfl).c 0 _ rfl; have d1 := (K.out.bx 1 _ _ _ rfl).c 1 _ rfl)
  go_ret
  exact ⟨rfl, K.out.low⟩

theorem lie_no (w : World) (C : Array Value) (hC : C.size = 23) (I : Nat) (hI : C[16]? = some (.int .u16 (I : Int))) (op x y n b a A : Nat) (h1 : (x : Int) < 256) (h2 : (I : Int) < 65536) (h3 : (A : Int) < 100000) (n29 : ((op : Int) == 29) = false) (n30 : ((op : Int) == 30) = false) :
    Calls Try.prog 22 #[.agg C, .agg #[.int .u8 (op : Int), .int .u8 (x : Int), .int .u8 (y : Int), .int .u8 (n : Int), .int .u8 (b : Int), .int .u16 (a : Int)], .int .i64 (A : Int)] w fun e w' => e = .returned (.bool false) ∧ Below w.heap.size w w' := by
  have gC : Hid (C.size = 23) := hC
  have gI : Hid (C[16]? = some (.int .u16 (I : Int))) := hI
  clear hC hI
  go_enter Try.func22, Try.ntmps22
  go_wp2_with ((with_reducible refine gen_world ((w.alloc (.cells C 29)).alloc (.cells #[.int .u8 (op : Int), .int .u8 (x : Int), .int .u8 (y : Int), .int .u8 (n : Int), .int .u8 (b : Int), .int .u16 (a : Int)] 45)) (Fm w [(w.heap.size, C, 29), (w.heap.size + 1, #[.int .u8 (op : Int), .int .u8 (x : Int), .int .u8 (y : Int), .int .u8 (n : Int), .int .u8 (b : Int), .int .u16 (a : Int)], 45)]) ?_ ?_); (exact Fm.two w _ _ _ _); intro z K; have c16 := (K.out.bx 0 _ _ _ rfl).c 16 _ gI.out; have d0 := (K.out.bx 1 _ _ _ rfl).c 0 _ rfl; have d1 := (K.out.bx 1 _ _ _ rfl).c 1 _ rfl)
  go_ret
  exact ⟨rfl, K.out.low⟩

theorem lies_any (w : World) (C : Array Value) (g : Gm) (o : Od) (h : GL w C g) (ho : OdR o) (A : Nat) (hA : A < 100000) :
    Calls Try.prog 22 #[.agg C, .agg (o6 o), .int .i64 (A : Int)] w fun e w' => e = .returned (.bool (lieG g o A)) ∧ Below w.heap.size w w' := by
  have hs := h.size.1
  have hi : C[16]? = some (.int .u16 (g.i : Int)) := by
    obtain ⟨⟨sS, sP, sM, cS, cP, cM, e, h1, h2, h3⟩, ok⟩ := h
    rw [e]
    rfl
  have gi := h.ok.i
  have hx := ho.x
  obtain ⟨op, x, y, n, b, a⟩ := o
  replace hx : x < 256 := hx
  unfold o6
  obtain ⟨I, hI⟩ : ∃ I, g.i = I := ⟨_, rfl⟩
  rw [hI] at hi gi
  by_cases h29 : op = 29
  · subst h29
    rw [show lieG g ⟨29, x, y, n, b, a⟩ A = (decide (g.i ≤ A) && decide (A ≤ g.i + 2)) from rfl, hI]
    by_cases p : I ≤ A
    · rw [show (decide (I ≤ A) && decide (A ≤ I + 2)) = decide (A ≤ I + 2) by simp [p]]
      exact lie_29b w C hs I hi x y n b a A (by omega) (by omega) (by omega) (by simp; omega) (by simp; omega) (I + 2) (by omega) (by omega) _ (by rw [decide_eq_decide]; omega) rfl
    · rw [show (decide (I ≤ A) && decide (A ≤ I + 2)) = false by simp [p]]
      exact lie_29a w C hs I hi x y n b a A (by omega) (by omega) (by omega) (by simp; omega) (by simp; omega)
  by_cases h30 : op = 30
  · subst h30
    rw [show lieG g ⟨30, x, y, n, b, a⟩ A = (decide (g.i ≤ A) && decide (A ≤ g.i + x)) from rfl, hI]
    by_cases p : I ≤ A
    · rw [show (decide (I ≤ A) && decide (A ≤ I + x)) = decide (A ≤ I + x) by simp [p]]
      exact lie_30b w C hs I hi x y n b a A (by omega) (by omega) (by omega) (by simp; omega) (by simp; omega) (I + x) (by omega) (by omega) _ (by rw [decide_eq_decide]; omega) rfl
    · rw [show (decide (I ≤ A) && decide (A ≤ I + x)) = false by simp [p]]
      exact lie_30a w C hs I hi x y n b a A (by omega) (by omega) (by omega) (by simp; omega) (by simp; omega)
  rw [show lieG g ⟨op, x, y, n, b, a⟩ A = false by simp [lieG, h29, h30]]
  exact lie_no w C hs I hi op x y n b a A (by omega) (by omega) (by omega) (by simp; omega) (by simp; omega)

end Go.Proofs.Ytigiebfdaiccdaa
