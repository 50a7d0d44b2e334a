/- code.Parse, walked: over what its callees answer. -/
import Derived.Test.YtmaedkbmjbggpaaDoorJOHolds
import Derived.Test.YtmaedkbmjbggpaaDoorJOCut
import Derived.Test.YtmaedkbmjbggpaaDoorJNum
namespace Go.Proofs.YtmaedkbmjbggpaaDoor
open Go.RowKit
set_option linter.unusedVariables false
set_option maxHeartbeats 2000000
set_option maxRecDepth 20000

/-- A block of the call's own: its cells, and that they may be written. -/
structure Mine (v : World) (a : Nat) (cs : Array Value) : Prop where
  cells : Holds v a cs
  free : ∀ j, v.frozen? ⟨a, j, none⟩ = false
  size : a < v.heap.size
theorem mine_alloc (w : World) (cs : Array Value) (t : TypeId) : Mine (w.alloc (.cells cs t)) w.heap.size cs :=
  ⟨fun j _ => World.cell?_alloc_new .., fun j => by simp, by simp⟩
theorem mine_alloc1 (w : World) (o : Obj) (cs : Array Value) (t : TypeId) : Mine ((w.alloc o).alloc (.cells cs t)) (w.heap.size + 1) cs := by
  have := mine_alloc (w.alloc o) cs t
  rw [show (w.alloc o).heap.size = w.heap.size + 1 from by simp] at this
  exact this
theorem Mine.mono {w v : World} {a : Nat} {cs : Array Value} (h : Mine w a cs) (hb : Below w.heap.size w v) : Mine v a cs :=
  ⟨h.cells.mono hb, fun j => (hb.frozen (p := ⟨a, j, none⟩) h.size).trans (h.free j), Nat.lt_of_lt_of_le h.size hb.size⟩
theorem mine_new {w v : World} {cs : Array Value} {t : TypeId} (hb : Below (w.alloc (.cells cs t)).heap.size (w.alloc (.cells cs t)) v) : Mine v w.heap.size cs := (mine_alloc w cs t).mono hb

theorem Mine.other {v : World} {a : Nat} {cs : Array Value} (h : Mine v a cs) {g j : Nat} {u : Value} (hne : a ≠ g) : Mine (v.setCell ⟨g, j, none⟩ u) a cs :=
  ⟨fun i hi => (World.cell?_setCell_other v ⟨g, j, none⟩ ⟨a, i, none⟩ u (by intro e; injection e with e1 e2; exact hne e1.symm)).trans (h.cells i hi), fun i => by rw [World.frozen?_setCell]; exact h.free i, by simpa using h.size⟩
theorem Mine.set1 {v : World} {a : Nat} {x y u : Value} (h : Mine v a #[x, y]) : Mine (v.setCell ⟨a, 1, none⟩ u) a #[x, u] := by
  refine ⟨fun i hi => ?_, fun i => by rw [World.frozen?_setCell]; exact h.free i, by simpa using h.size⟩
  have : i = 0 ∨ i = 1 := by simp at hi; omega
  rcases this with rfl | rfl
  · exact (World.cell?_setCell_other v ⟨a, 1, none⟩ ⟨a, 0, none⟩ u (by intro e; injection e with e1 e2; omega)).trans (h.cells 0 (by simp))
  · exact World.cell?_setCell_same v ⟨a, 1, none⟩ u (h.cells 1 (by simp))

def retI (X : ByteArray) (A : Int) (e : Int) : Ending := .returned (.tuple #[.agg #[.string X, .int .i64 A], .int .i64 e])

theorem parse_none (s N B : ByteArray) (w : World) (T : Tabs w) (hcut : ∀ v, Calls Tryd.prog 107 #[.string s] v fun e v' => e = .returned (.tuple #[.string N, .string B]) ∧ Below v.heap.size v v') (ho : Hid (opOf N = none)) :
    Calls Tryd.prog 94 #[.string s] w fun e w' => e = retI ⟨#[]⟩ 0 20 ∧ Below w.heap.size w w' := by
  have T0 := T.below ((Below.refl _ _).alloc (Nat.le_refl _) (.cells #[.string ⟨#[]⟩, .int .i64 0] 71))
  go_enter Tryd.func94, Tryd.ntmps94
  go_wp2_with (first
    | (go_at_call 107; refine (hcut _).mono ?_; rintro e v1 ⟨rfl, hb1⟩; have T1 := T0.below hb1; have M := mine_new hb1; replace hb1 := below_own hb1)
    | (go_at_call 64; refine (find_none N ho _ T1).mono ?_; unfold info0; rintro e v2 ⟨rfl, hb2⟩; replace M := M.mono hb2; replace hb2 := hb1.trans (hb2.mono hb1.size); have m0 : v2.cell? ⟨w.heap.size, 0, none⟩ = some (.string ⟨#[]⟩) := M.cells 0 (by simp); have m1 : v2.cell? ⟨w.heap.size, 1, none⟩ = some (.int .i64 0) := M.cells 1 (by simp); have f0 := M.free 0; have f1 := M.free 1; have sz := M.size))
  (try simp only [Exit.inBlock, Exit.then])
  refine bodyPost_ret (by simp [results, Tryd.results94, go_sem, m0, m1, sz]; try rfl) rfl ?_
  refine ⟨rfl, ?_⟩
  repeat (first | exact hb2 | refine below_set ?_ (Nat.le_refl _) | refine Below.alloc ?_ (Nat.le_of_lt sz) _ | refine Below.alloc ?_ (by simp; omega) _)

theorem parse_bad0 (s N B : ByteArray) (w : World) (T : Tabs w) (hcut : ∀ v, Calls Tryd.prog 107 #[.string s] v fun e v' => e = .returned (.tuple #[.string N, .string B]) ∧ Below v.heap.size v v')
    (n : Nat) (ho : Hid (opOf N = some n)) (X : ByteArray) (F L c : Nat) (hX : Hid (nm n = X)) (hF : Hid (fm n = F)) (hL : Hid (lay (fm n * 3) = L)) (hc : Hid (cyc n = c)) (A : Int)
    (t : ByteArray) (pe : Int) (hpr : ∀ v, Tabs v → Calls Tryd.prog 69 #[.agg #[.string X, .int .i64 A]] v fun e v' => e = .returned (.tuple #[.string t, .int .i64 pe]) ∧ Below v.heap.size v v')
    (hB : Hid (B = ⟨#[]⟩)) (hA : Hid (A = 0)) (hpe : pe ≠ 0) :
    Calls Tryd.prog 94 #[.string s] w fun e w' => e = retI ⟨#[]⟩ 0 21 ∧ Below w.heap.size w w' := by
  have T0 := T.below ((Below.refl _ _).alloc (Nat.le_refl _) (.cells #[.string ⟨#[]⟩, .int .i64 0] 71))
  rw [hB.out] at hcut
  have hA' := hA.out
  subst hA'
  have hpe' : (pe != 0) = true := by simpa using hpe
  go_enter Tryd.func94, Tryd.ntmps94
  go_wp2_with (first
    | (go_at_call 107; refine (hcut _).mono ?_; rintro e v1 ⟨rfl, hb1⟩; have T1 := T0.below hb1; have M := mine_new hb1; replace hb1 := below_own hb1)
    | (go_at_call 64; refine (find_some N n ho X F L c hX hF hL hc _ T1).mono ?_; rintro e v2 ⟨rfl, hb2⟩; have sz := (M.mono hb2).size; have M2 : Mine ((v2.alloc (.cells #[.string X, .int .u8 F, .int .i64 L, .int .i64 c] 75)).alloc (.cells #[.string X, .int .i64 0] 71)) w.heap.size #[.string ⟨#[]⟩, .int .i64 0] := ((M.mono hb2).mono ((Below.refl _ _).alloc (Nat.le_refl _) _)).mono ((Below.refl _ _).alloc (Nat.le_refl _) _); have I2 : Mine ((v2.alloc (.cells #[.string X, .int .u8 F, .int .i64 L, .int .i64 c] 75)).alloc (.cells #[.string X, .int .i64 0] 71)) (v2.heap.size + 1) #[.string X, .int .i64 0] := mine_alloc1 _ _ _ _; replace hb2 := hb1.trans (hb2.mono hb1.size); have HB2 : Below w.heap.size w ((v2.alloc (.cells #[.string X, .int .u8 F, .int .i64 L, .int .i64 c] 75)).alloc (.cells #[.string X, .int .i64 0] 71)) := (hb2.alloc hb2.size _).alloc (Nat.le_trans hb2.size (by simp)) _)
    | (go_at_call 69; refine (hpr _ (T.below HB2)).mono ?_; rintro e v3 ⟨rfl, hb3⟩; have M3 := M2.mono hb3; have I3 := I2.mono hb3; replace hb3 := HB2.trans (hb3.mono HB2.size); have m0 : v3.cell? ⟨w.heap.size, 0, none⟩ = some (.string ⟨#[]⟩) := M3.cells 0 (by simp); have m1 : v3.cell? ⟨w.heap.size, 1, none⟩ = some (.int .i64 0) := M3.cells 1 (by simp); have f0 := M3.free 0; have f1 := M3.free 1; have i0 : v3.cell? ⟨v2.heap.size + 1, 0, none⟩ = some (.string X) := I3.cells 0 (by simp); have i1 : v3.cell? ⟨v2.heap.size + 1, 1, none⟩ = some (.int .i64 0) := I3.cells 1 (by simp)))
  (try simp only [Exit.inBlock, Exit.then])
  refine bodyPost_ret (by simp [results, Tryd.results94, go_sem, m0, m1]; try rfl) rfl ?_
  refine ⟨rfl, ?_⟩
  repeat (first | exact hb3 | refine below_set ?_ (Nat.le_refl _))

theorem parse_not0 (s N B : ByteArray) (w : World) (T : Tabs w) (hcut : ∀ v, Calls Tryd.prog 107 #[.string s] v fun e v' => e = .returned (.tuple #[.string N, .string B]) ∧ Below v.heap.size v v')
    (n : Nat) (ho : Hid (opOf N = some n)) (X : ByteArray) (F L c : Nat) (hX : Hid (nm n = X)) (hF : Hid (fm n = F)) (hL : Hid (lay (fm n * 3) = L)) (hc : Hid (cyc n = c)) (A : Int)
    (t : ByteArray) (pe : Int) (hpr : ∀ v, Tabs v → Calls Tryd.prog 69 #[.agg #[.string X, .int .i64 A]] v fun e v' => e = .returned (.tuple #[.string t, .int .i64 pe]) ∧ Below v.heap.size v v')
    (hB : Hid (B = ⟨#[]⟩)) (hA : Hid (A = 0)) (hpe : pe = 0) (hts : Hid (t ≠ s)) :
    Calls Tryd.prog 94 #[.string s] w fun e w' => e = retI ⟨#[]⟩ 0 21 ∧ Below w.heap.size w w' := by
  have T0 := T.below ((Below.refl _ _).alloc (Nat.le_refl _) (.cells #[.string ⟨#[]⟩, .int .i64 0] 71))
  rw [hB.out] at hcut
  have hA' := hA.out
  subst hA'
  subst hpe
  have hq := str_ne hts.out
  go_enter Tryd.func94, Tryd.ntmps94
  go_wp2_with (first
    | (go_at_call 107; refine (hcut _).mono ?_; rintro e v1 ⟨rfl, hb1⟩; have T1 := T0.below hb1; have M := mine_new hb1; replace hb1 := below_own hb1)
    | (go_at_call 64; refine (find_some N n ho X F L c hX hF hL hc _ T1).mono ?_; rintro e v2 ⟨rfl, hb2⟩; have sz := (M.mono hb2).size; have M2 : Mine ((v2.alloc (.cells #[.string X, .int .u8 F, .int .i64 L, .int .i64 c] 75)).alloc (.cells #[.string X, .int .i64 0] 71)) w.heap.size #[.string ⟨#[]⟩, .int .i64 0] := ((M.mono hb2).mono ((Below.refl _ _).alloc (Nat.le_refl _) _)).mono ((Below.refl _ _).alloc (Nat.le_refl _) _); have I2 : Mine ((v2.alloc (.cells #[.string X, .int .u8 F, .int .i64 L, .int .i64 c] 75)).alloc (.cells #[.string X, .int .i64 0] 71)) (v2.heap.size + 1) #[.string X, .int .i64 0] := mine_alloc1 _ _ _ _; replace hb2 := hb1.trans (hb2.mono hb1.size); have HB2 : Below w.heap.size w ((v2.alloc (.cells #[.string X, .int .u8 F, .int .i64 L, .int .i64 c] 75)).alloc (.cells #[.string X, .int .i64 0] 71)) := (hb2.alloc hb2.size _).alloc (Nat.le_trans hb2.size (by simp)) _)
    | (go_at_call 69; refine (hpr _ (T.below HB2)).mono ?_; rintro e v3 ⟨rfl, hb3⟩; have M3 := M2.mono hb3; have I3 := I2.mono hb3; replace hb3 := HB2.trans (hb3.mono HB2.size); have m0 : v3.cell? ⟨w.heap.size, 0, none⟩ = some (.string ⟨#[]⟩) := M3.cells 0 (by simp); have m1 : v3.cell? ⟨w.heap.size, 1, none⟩ = some (.int .i64 0) := M3.cells 1 (by simp); have f0 := M3.free 0; have f1 := M3.free 1; have i0 : v3.cell? ⟨v2.heap.size + 1, 0, none⟩ = some (.string X) := I3.cells 0 (by simp); have i1 : v3.cell? ⟨v2.heap.size + 1, 1, none⟩ = some (.int .i64 0) := I3.cells 1 (by simp)))
  (try simp only [Exit.inBlock, Exit.then])
  refine bodyPost_ret (by simp [results, Tryd.results94, go_sem, m0, m1]; try rfl) rfl ?_
  refine ⟨rfl, ?_⟩
  repeat (first | exact hb3 | refine below_set ?_ (Nat.le_refl _))

theorem parse_ok0 (s N B : ByteArray) (w : World) (T : Tabs w) (hcut : ∀ v, Calls Tryd.prog 107 #[.string s] v fun e v' => e = .returned (.tuple #[.string N, .string B]) ∧ Below v.heap.size v v')
    (n : Nat) (ho : Hid (opOf N = some n)) (X : ByteArray) (F L c : Nat) (hX : Hid (nm n = X)) (hF : Hid (fm n = F)) (hL : Hid (lay (fm n * 3) = L)) (hc : Hid (cyc n = c)) (A : Int)
    (t : ByteArray) (pe : Int) (hpr : ∀ v, Tabs v → Calls Tryd.prog 69 #[.agg #[.string X, .int .i64 A]] v fun e v' => e = .returned (.tuple #[.string t, .int .i64 pe]) ∧ Below v.heap.size v v')
    (hB : Hid (B = ⟨#[]⟩)) (hA : Hid (A = 0)) (hpe : pe = 0) (hts : Hid (t = s)) :
    Calls Tryd.prog 94 #[.string s] w fun e w' => e = retI X A 0 ∧ Below w.heap.size w w' := by
  have T0 := T.below ((Below.refl _ _).alloc (Nat.le_refl _) (.cells #[.string ⟨#[]⟩, .int .i64 0] 71))
  rw [hB.out] at hcut
  have hA' := hA.out
  subst hA'
  subst hpe
  have hq := hts.out
  subst hq
  go_enter Tryd.func94, Tryd.ntmps94
  go_wp2_with (first
    | (go_at_call 107; refine (hcut _).mono ?_; rintro e v1 ⟨rfl, hb1⟩; have T1 := T0.below hb1; have M := mine_new hb1; replace hb1 := below_own hb1)
    | (go_at_call 64; refine (find_some N n ho X F L c hX hF hL hc _ T1).mono ?_; rintro e v2 ⟨rfl, hb2⟩; have sz := (M.mono hb2).size; have M2 : Mine ((v2.alloc (.cells #[.string X, .int .u8 F, .int .i64 L, .int .i64 c] 75)).alloc (.cells #[.string X, .int .i64 0] 71)) w.heap.size #[.string ⟨#[]⟩, .int .i64 0] := ((M.mono hb2).mono ((Below.refl _ _).alloc (Nat.le_refl _) _)).mono ((Below.refl _ _).alloc (Nat.le_refl _) _); have I2 : Mine ((v2.alloc (.cells #[.string X, .int .u8 F, .int .i64 L, .int .i64 c] 75)).alloc (.cells #[.string X, .int .i64 0] 71)) (v2.heap.size + 1) #[.string X, .int .i64 0] := mine_alloc1 _ _ _ _; replace hb2 := hb1.trans (hb2.mono hb1.size); have HB2 : Below w.heap.size w ((v2.alloc (.cells #[.string X, .int .u8 F, .int .i64 L, .int .i64 c] 75)).alloc (.cells #[.string X, .int .i64 0] 71)) := (hb2.alloc hb2.size _).alloc (Nat.le_trans hb2.size (by simp)) _)
    | (go_at_call 69; refine (hpr _ (T.below HB2)).mono ?_; rintro e v3 ⟨rfl, hb3⟩; have M3 := M2.mono hb3; have I3 := I2.mono hb3; replace hb3 := HB2.trans (hb3.mono HB2.size); have m0 : v3.cell? ⟨w.heap.size, 0, none⟩ = some (.string ⟨#[]⟩) := M3.cells 0 (by simp); have m1 : v3.cell? ⟨w.heap.size, 1, none⟩ = some (.int .i64 0) := M3.cells 1 (by simp); have f0 := M3.free 0; have f1 := M3.free 1; have i0 : v3.cell? ⟨v2.heap.size + 1, 0, none⟩ = some (.string X) := I3.cells 0 (by simp); have i1 : v3.cell? ⟨v2.heap.size + 1, 1, none⟩ = some (.int .i64 0) := I3.cells 1 (by simp)))
  (try simp only [Exit.inBlock, Exit.then])
  refine bodyPost_ret (by simp [results, Tryd.results94, go_sem, m0, m1]; try rfl) rfl ?_
  refine ⟨rfl, ?_⟩
  repeat (first | exact hb3 | refine below_set ?_ (Nat.le_refl _))

theorem parse_bad1 (s N B : ByteArray) (w : World) (T : Tabs w) (hcut : ∀ v, Calls Tryd.prog 107 #[.string s] v fun e v' => e = .returned (.tuple #[.string N, .string B]) ∧ Below v.heap.size v v')
    (n : Nat) (ho : Hid (opOf N = some n)) (X : ByteArray) (F L c : Nat) (hX : Hid (nm n = X)) (hF : Hid (fm n = F)) (hL : Hid (lay (fm n * 3) = L)) (hc : Hid (cyc n = c)) (A : Int)
    (t : ByteArray) (pe : Int) (hpr : ∀ v, Tabs v → Calls Tryd.prog 69 #[.agg #[.string X, .int .i64 A]] v fun e v' => e = .returned (.tuple #[.string t, .int .i64 pe]) ∧ Below v.heap.size v v')
    (hB : Hid (B ≠ ⟨#[]⟩)) (hBs : B.size ≤ maxLen) (hA : Hid (numV B = A)) (hpe : pe ≠ 0) :
    Calls Tryd.prog 94 #[.string s] w fun e w' => e = retI ⟨#[]⟩ 0 21 ∧ Below w.heap.size w w' := by
  have T0 := T.below ((Below.refl _ _).alloc (Nat.le_refl _) (.cells #[.string ⟨#[]⟩, .int .i64 0] 71))
  have hBn : (B.toList == []) = false := by have h := str_ne hB.out; rw [toList_eq ⟨#[]⟩] at h; exact h
  have hBn' : B.toList.isEmpty = false := by revert hBn; cases B.toList <;> simp
  have hpe' : (pe != 0) = true := by simpa using hpe
  go_enter Tryd.func94, Tryd.ntmps94
  go_wp2_with (first
    | (go_at_call 107; refine (hcut _).mono ?_; rintro e v1 ⟨rfl, hb1⟩; have T1 := T0.below hb1; have M := mine_new hb1; replace hb1 := below_own hb1)
    | (go_at_call 64; refine (find_some N n ho X F L c hX hF hL hc _ T1).mono ?_; rintro e v2 ⟨rfl, hb2⟩; have sz := (M.mono hb2).size; have M2 : Mine ((v2.alloc (.cells #[.string X, .int .u8 F, .int .i64 L, .int .i64 c] 75)).alloc (.cells #[.string X, .int .i64 0] 71)) w.heap.size #[.string ⟨#[]⟩, .int .i64 0] := ((M.mono hb2).mono ((Below.refl _ _).alloc (Nat.le_refl _) _)).mono ((Below.refl _ _).alloc (Nat.le_refl _) _); have I2 : Mine ((v2.alloc (.cells #[.string X, .int .u8 F, .int .i64 L, .int .i64 c] 75)).alloc (.cells #[.string X, .int .i64 0] 71)) (v2.heap.size + 1) #[.string X, .int .i64 0] := mine_alloc1 _ _ _ _; replace hb2 := hb1.trans (hb2.mono hb1.size); have HB2 : Below w.heap.size w ((v2.alloc (.cells #[.string X, .int .u8 F, .int .i64 L, .int .i64 c] 75)).alloc (.cells #[.string X, .int .i64 0] 71)) := (hb2.alloc hb2.size _).alloc (Nat.le_trans hb2.size (by simp)) _)
    | (go_at_call 92; refine (number_any B _ hBs).mono ?_; rw [hA.out]; rintro e v3 ⟨rfl, hb3⟩; have M3 := M2.mono hb3; have I3 := I2.mono hb3; replace hb3 := HB2.trans (hb3.mono HB2.size); have i0' : v3.cell? ⟨v2.heap.size + 1, 0, none⟩ = some (.string X) := I3.cells 0 (by simp); have i1' : v3.cell? ⟨v2.heap.size + 1, 1, none⟩ = some (.int .i64 0) := I3.cells 1 (by simp); have j0 := I3.free 0; have j1 := I3.free 1)
    | (go_at_call 69; have HB3 : Below w.heap.size w (v3.setCell ⟨v2.heap.size + 1, 1, none⟩ (.int .i64 A)) := below_set hb3 (by omega); refine (hpr _ (T.below HB3)).mono ?_; rintro e v4 ⟨rfl, hb4⟩; have M4 := (M3.other (g := v2.heap.size + 1) (j := 1) (u := .int .i64 A) (by omega)).mono hb4; have I4 := (I3.set1 (u := .int .i64 A)).mono hb4; replace hb4 := HB3.trans (hb4.mono HB3.size); have m0 : v4.cell? ⟨w.heap.size, 0, none⟩ = some (.string ⟨#[]⟩) := M4.cells 0 (by simp); have m1 : v4.cell? ⟨w.heap.size, 1, none⟩ = some (.int .i64 0) := M4.cells 1 (by simp); have f0 := M4.free 0; have f1 := M4.free 1; have i0 : v4.cell? ⟨v2.heap.size + 1, 0, none⟩ = some (.string X) := I4.cells 0 (by simp); have i1 : v4.cell? ⟨v2.heap.size + 1, 1, none⟩ = some (.int .i64 A) := I4.cells 1 (by simp)))
  (try simp only [Exit.inBlock, Exit.then])
  refine bodyPost_ret (by simp [results, Tryd.results94, go_sem, m0, m1]; try rfl) rfl ?_
  refine ⟨rfl, ?_⟩
  repeat (first | exact hb4 | refine below_set ?_ (Nat.le_refl _))

theorem parse_not1 (s N B : ByteArray) (w : World) (T : Tabs w) (hcut : ∀ v, Calls Tryd.prog 107 #[.string s] v fun e v' => e = .returned (.tuple #[.string N, .string B]) ∧ Below v.heap.size v v')
    (n : Nat) (ho : Hid (opOf N = some n)) (X : ByteArray) (F L c : Nat) (hX : Hid (nm n = X)) (hF : Hid (fm n = F)) (hL : Hid (lay (fm n * 3) = L)) (hc : Hid (cyc n = c)) (A : Int)
    (t : ByteArray) (pe : Int) (hpr : ∀ v, Tabs v → Calls Tryd.prog 69 #[.agg #[.string X, .int .i64 A]] v fun e v' => e = .returned (.tuple #[.string t, .int .i64 pe]) ∧ Below v.heap.size v v')
    (hB : Hid (B ≠ ⟨#[]⟩)) (hBs : B.size ≤ maxLen) (hA : Hid (numV B = A)) (hpe : pe = 0) (hts : Hid (t ≠ s)) :
    Calls Tryd.prog 94 #[.string s] w fun e w' => e = retI ⟨#[]⟩ 0 21 ∧ Below w.heap.size w w' := by
  have T0 := T.below ((Below.refl _ _).alloc (Nat.le_refl _) (.cells #[.string ⟨#[]⟩, .int .i64 0] 71))
  have hBn : (B.toList == []) = false := by have h := str_ne hB.out; rw [toList_eq ⟨#[]⟩] at h; exact h
  have hBn' : B.toList.isEmpty = false := by revert hBn; cases B.toList <;> simp
  subst hpe
  have hq := str_ne hts.out
  go_enter Tryd.func94, Tryd.ntmps94
  go_wp2_with (first
    | (go_at_call 107; refine (hcut _).mono ?_; rintro e v1 ⟨rfl, hb1⟩; have T1 := T0.below hb1; have M := mine_new hb1; replace hb1 := below_own hb1)
    | (go_at_call 64; refine (find_some N n ho X F L c hX hF hL hc _ T1).mono ?_; rintro e v2 ⟨rfl, hb2⟩; have sz := (M.mono hb2).size; have M2 : Mine ((v2.alloc (.cells #[.string X, .int .u8 F, .int .i64 L, .int .i64 c] 75)).alloc (.cells #[.string X, .int .i64 0] 71)) w.heap.size #[.string ⟨#[]⟩, .int .i64 0] := ((M.mono hb2).mono ((Below.refl _ _).alloc (Nat.le_refl _) _)).mono ((Below.refl _ _).alloc (Nat.le_refl _) _); have I2 : Mine ((v2.alloc (.cells #[.string X, .int .u8 F, .int .i64 L, .int .i64 c] 75)).alloc (.cells #[.string X, .int .i64 0] 71)) (v2.heap.size + 1) #[.string X, .int .i64 0] := mine_alloc1 _ _ _ _; replace hb2 := hb1.trans (hb2.mono hb1.size); have HB2 : Below w.heap.size w ((v2.alloc (.cells #[.string X, .int .u8 F, .int .i64 L, .int .i64 c] 75)).alloc (.cells #[.string X, .int .i64 0] 71)) := (hb2.alloc hb2.size _).alloc (Nat.le_trans hb2.size (by simp)) _)
    | (go_at_call 92; refine (number_any B _ hBs).mono ?_; rw [hA.out]; rintro e v3 ⟨rfl, hb3⟩; have M3 := M2.mono hb3; have I3 := I2.mono hb3; replace hb3 := HB2.trans (hb3.mono HB2.size); have i0' : v3.cell? ⟨v2.heap.size + 1, 0, none⟩ = some (.string X) := I3.cells 0 (by simp); have i1' : v3.cell? ⟨v2.heap.size + 1, 1, none⟩ = some (.int .i64 0) := I3.cells 1 (by simp); have j0 := I3.free 0; have j1 := I3.free 1)
    | (go_at_call 69; have HB3 : Below w.heap.size w (v3.setCell ⟨v2.heap.size + 1, 1, none⟩ (.int .i64 A)) := below_set hb3 (by omega); refine (hpr _ (T.below HB3)).mono ?_; rintro e v4 ⟨rfl, hb4⟩; have M4 := (M3.other (g := v2.heap.size + 1) (j := 1) (u := .int .i64 A) (by omega)).mono hb4; have I4 := (I3.set1 (u := .int .i64 A)).mono hb4; replace hb4 := HB3.trans (hb4.mono HB3.size); have m0 : v4.cell? ⟨w.heap.size, 0, none⟩ = some (.string ⟨#[]⟩) := M4.cells 0 (by simp); have m1 : v4.cell? ⟨w.heap.size, 1, none⟩ = some (.int .i64 0) := M4.cells 1 (by simp); have f0 := M4.free 0; have f1 := M4.free 1; have i0 : v4.cell? ⟨v2.heap.size + 1, 0, none⟩ = some (.string X) := I4.cells 0 (by simp); have i1 : v4.cell? ⟨v2.heap.size + 1, 1, none⟩ = some (.int .i64 A) := I4.cells 1 (by simp)))
  (try simp only [Exit.inBlock, Exit.then])
  refine bodyPost_ret (by simp [results, Tryd.results94, go_sem, m0, m1]; try rfl) rfl ?_
  refine ⟨rfl, ?_⟩
  repeat (first | exact hb4 | refine below_set ?_ (Nat.le_refl _))

theorem parse_ok1 (s N B : ByteArray) (w : World) (T : Tabs w) (hcut : ∀ v, Calls Tryd.prog 107 #[.string s] v fun e v' => e = .returned (.tuple #[.string N, .string B]) ∧ Below v.heap.size v v')
    (n : Nat) (ho : Hid (opOf N = some n)) (X : ByteArray) (F L c : Nat) (hX : Hid (nm n = X)) (hF : Hid (fm n = F)) (hL : Hid (lay (fm n * 3) = L)) (hc : Hid (cyc n = c)) (A : Int)
    (t : ByteArray) (pe : Int) (hpr : ∀ v, Tabs v → Calls Tryd.prog 69 #[.agg #[.string X, .int .i64 A]] v fun e v' => e = .returned (.tuple #[.string t, .int .i64 pe]) ∧ Below v.heap.size v v')
    (hB : Hid (B ≠ ⟨#[]⟩)) (hBs : B.size ≤ maxLen) (hA : Hid (numV B = A)) (hpe : pe = 0) (hts : Hid (t = s)) :
    Calls Tryd.prog 94 #[.string s] w fun e w' => e = retI X A 0 ∧ Below w.heap.size w w' := by
  have T0 := T.below ((Below.refl _ _).alloc (Nat.le_refl _) (.cells #[.string ⟨#[]⟩, .int .i64 0] 71))
  have hBn : (B.toList == []) = false := by have h := str_ne hB.out; rw [toList_eq ⟨#[]⟩] at h; exact h
  have hBn' : B.toList.isEmpty = false := by revert hBn; cases B.toList <;> simp
  subst hpe
  have hq := hts.out
  subst hq
  go_enter Tryd.func94, Tryd.ntmps94
  go_wp2_with (first
    | (go_at_call 107; refine (hcut _).mono ?_; rintro e v1 ⟨rfl, hb1⟩; have T1 := T0.below hb1; have M := mine_new hb1; replace hb1 := below_own hb1)
    | (go_at_call 64; refine (find_some N n ho X F L c hX hF hL hc _ T1).mono ?_; rintro e v2 ⟨rfl, hb2⟩; have sz := (M.mono hb2).size; have M2 : Mine ((v2.alloc (.cells #[.string X, .int .u8 F, .int .i64 L, .int .i64 c] 75)).alloc (.cells #[.string X, .int .i64 0] 71)) w.heap.size #[.string ⟨#[]⟩, .int .i64 0] := ((M.mono hb2).mono ((Below.refl _ _).alloc (Nat.le_refl _) _)).mono ((Below.refl _ _).alloc (Nat.le_refl _) _); have I2 : Mine ((v2.alloc (.cells #[.string X, .int .u8 F, .int .i64 L, .int .i64 c] 75)).alloc (.cells #[.string X, .int .i64 0] 71)) (v2.heap.size + 1) #[.string X, .int .i64 0] := mine_alloc1 _ _ _ _; replace hb2 := hb1.trans (hb2.mono hb1.size); have HB2 : Below w.heap.size w ((v2.alloc (.cells #[.string X, .int .u8 F, .int .i64 L, .int .i64 c] 75)).alloc (.cells #[.string X, .int .i64 0] 71)) := (hb2.alloc hb2.size _).alloc (Nat.le_trans hb2.size (by simp)) _)
    | (go_at_call 92; refine (number_any B _ hBs).mono ?_; rw [hA.out]; rintro e v3 ⟨rfl, hb3⟩; have M3 := M2.mono hb3; have I3 := I2.mono hb3; replace hb3 := HB2.trans (hb3.mono HB2.size); have i0' : v3.cell? ⟨v2.heap.size + 1, 0, none⟩ = some (.string X) := I3.cells 0 (by simp); have i1' : v3.cell? ⟨v2.heap.size + 1, 1, none⟩ = some (.int .i64 0) := I3.cells 1 (by simp); have j0 := I3.free 0; have j1 := I3.free 1)
    | (go_at_call 69; have HB3 : Below w.heap.size w (v3.setCell ⟨v2.heap.size + 1, 1, none⟩ (.int .i64 A)) := below_set hb3 (by omega); refine (hpr _ (T.below HB3)).mono ?_; rintro e v4 ⟨rfl, hb4⟩; have M4 := (M3.other (g := v2.heap.size + 1) (j := 1) (u := .int .i64 A) (by omega)).mono hb4; have I4 := (I3.set1 (u := .int .i64 A)).mono hb4; replace hb4 := HB3.trans (hb4.mono HB3.size); have m0 : v4.cell? ⟨w.heap.size, 0, none⟩ = some (.string ⟨#[]⟩) := M4.cells 0 (by simp); have m1 : v4.cell? ⟨w.heap.size, 1, none⟩ = some (.int .i64 0) := M4.cells 1 (by simp); have f0 := M4.free 0; have f1 := M4.free 1; have i0 : v4.cell? ⟨v2.heap.size + 1, 0, none⟩ = some (.string X) := I4.cells 0 (by simp); have i1 : v4.cell? ⟨v2.heap.size + 1, 1, none⟩ = some (.int .i64 A) := I4.cells 1 (by simp)))
  (try simp only [Exit.inBlock, Exit.then])
  refine bodyPost_ret (by simp [results, Tryd.results94, go_sem, m0, m1]; try rfl) rfl ?_
  refine ⟨rfl, ?_⟩
  repeat (first | exact hb4 | refine below_set ?_ (Nat.le_refl _))

end Go.Proofs.YtmaedkbmjbggpaaDoor
